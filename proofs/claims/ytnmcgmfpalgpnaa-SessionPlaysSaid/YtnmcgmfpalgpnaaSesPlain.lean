/-
  PLAIN WORDS OF LAYER session: a table as its rows, by number; what Open, Ask, Done, Set do; what SessionOnce, SessionLate and SessionRoom keep. Nothing of the program is run here.
-/
import Derived.Test.YtnmcgmfpalgpnaaProg
set_option linter.unusedVariables false
namespace Go.Proofs.Ytnmcgmfpalgpnaa.Se

structure Ro (α : Type) where
  id : Int
  last : Int
  used : Int
  x : α
abbrev Tb (α : Type) := List (Ro α)
section
variable {α : Type} (z : α)
/-- the least use -/
def least : Tb α → Option Int
  | [] => none
  | r :: t => match least t with
    | none => some r.used
    | some m => some (min r.used m)
/-- without the first row of the least use -/
def dropLeast (t : Tb α) : Tb α := match least t with
  | none => t
  | some m => t.eraseP fun r => decide (r.used = m)
def late (t : Tb α) (now : Int) : Bool := t.any fun r => decide (now ≤ r.used) || decide (now ≤ r.id)
def openT (t : Tb α) (now : Int) : Tb α × Bool := if now < 1 ∨ late t now = true then (t, false) else ((if t.length < 8 then t else dropLeast t) ++ [⟨now, 0, now, z⟩], true)
def rowOf (t : Tb α) (id : Int) : Option (Ro α) := t.find? fun r => decide (r.id = id)
/-- 0 no session, 1 fresh, 2 again, 3 old -/
def askT (t : Tb α) (id seq : Int) : Nat × α := match rowOf t id with
  | none => (0, z)
  | some r => if r.last < seq then (1, z) else if seq = r.last ∧ 1 ≤ seq then (2, r.x) else (3, z)
def doneT (t : Tb α) (id seq now : Int) (x : α) : Tb α × Bool := if (askT z t id seq).1 ≠ 1 ∨ (t.any fun r => decide (now < r.used)) = true then (t, false)
  else (t.map fun r => if r.id = id then ⟨r.id, seq, now, x⟩ else r, true)
def rightT : Int → Tb α → Bool
  | _, [] => true
  | k, r :: t => decide (k < r.id) && decide (0 ≤ r.last) && decide (r.id ≤ r.used) && rightT r.id t
def setT (t l : Tb α) : Tb α × Bool := if l.length ≤ 8 ∧ rightT 0 l = true then (l, true) else (t, false)

/-! ### SessionOnce: one session, numbers tried -/
/-- done: what a number was done as; nothing above the last, the last as the row says -/
def OnceInv (i : Nat) (t : Tb Int) (done : Int → Int) : Prop :=
  ∃ (L U X : Int), t = [⟨1, L, U, X⟩] ∧ 0 ≤ L ∧ U ≤ (i : Int) + 1 ∧ (∀ s, L < s → done s = 0) ∧ (1 ≤ L → done L = X ∧ 1000 ≤ X) ∧ (L = 0 → ∀ s, done s = 0)
theorem once_start : OnceInv 0 (openT (0 : Int) [] 1).1 fun _ => 0 := ⟨0, 1, 0, rfl, Int.le_refl _, by decide, fun _ _ => rfl, fun h => absurd h (by decide), fun _ _ => rfl⟩
theorem once_ask {i : Nat} {t : Tb Int} {done : Int → Int} (h : OnceInv i t done) (s : Int) :
    ((askT 0 t 1 s).1 = 1 ∧ ¬ 0 < done s ∧ ∃ t', doneT 0 t 1 s (2 + (i : Int)) (1000 + (i : Int)) = (t', true) ∧ OnceInv (i + 1) t' fun k => if k = s then 1000 + (i : Int) else done k) ∨
    (((askT 0 t 1 s).1 = 2 ∧ done s ≠ 0 ∧ (askT 0 t 1 s).2 = done s ∨ (askT 0 t 1 s).1 = 3) ∧ doneT 0 t 1 s (2 + (i : Int)) 5 = (t, false) ∧ OnceInv (i + 1) t done) := by
  obtain ⟨L, U, X, rfl, h1, h2, h3, h4, h5⟩ := h
  have hr : rowOf [(⟨1, L, U, X⟩ : Ro Int)] 1 = some ⟨1, L, U, X⟩ := rfl
  by_cases hs : L < s
  · left
    have ha : askT 0 [(⟨1, L, U, X⟩ : Ro Int)] 1 s = (1, 0) := by
      unfold askT
      rw [hr]
      simp only
      rw [if_pos hs]
    rw [ha]
    refine ⟨rfl, by rw [h3 s hs]; decide, [⟨1, s, 2 + (i : Int), 1000 + (i : Int)⟩], ?_, s, 2 + (i : Int), 1000 + (i : Int), rfl, by omega, by push_cast; omega, fun k hk => ?_, fun _ => ⟨if_pos rfl, by omega⟩, fun h0 => by omega⟩
    · unfold doneT
      rw [ha, if_neg]
      · rfl
      · rintro (h | h)
        · exact h rfl
        · simp at h; omega
    · show (if k = s then _ else done k) = 0
      rw [if_neg (by omega)]
      exact h3 k (by omega)
  · right
    have hd : ∀ v, (askT 0 [(⟨1, L, U, X⟩ : Ro Int)] 1 s).1 ≠ 1 → doneT 0 [(⟨1, L, U, X⟩ : Ro Int)] 1 s (2 + (i : Int)) v = ([⟨1, L, U, X⟩], false) := fun v h => by
      unfold doneT
      rw [if_pos (.inl h)]
    have hinv : OnceInv (i + 1) [(⟨1, L, U, X⟩ : Ro Int)] done := ⟨L, U, X, rfl, h1, by push_cast; omega, h3, h4, h5⟩
    by_cases hg : s = L ∧ 1 ≤ s
    · have ha : askT 0 [(⟨1, L, U, X⟩ : Ro Int)] 1 s = (2, X) := by
        unfold askT
        rw [hr]
        simp only
        rw [if_neg hs, if_pos hg]
      have h6 := h4 (by omega)
      refine ⟨.inl ?_, hd 5 (by rw [ha]; simp), hinv⟩
      rw [ha, hg.1]
      exact ⟨rfl, by omega, h6.1.symm⟩
    · have ha : askT 0 [(⟨1, L, U, X⟩ : Ro Int)] 1 s = (3, 0) := by
        unfold askT
        rw [hr]
        simp only
        rw [if_neg hs, if_neg hg]
      exact ⟨.inr (by rw [ha]), hd 5 (by rw [ha]; simp), hinv⟩

/-! ### SessionLate: later than all that was -/
theorem drop_sub (t : Tb α) : (dropLeast t).Sublist t := by
  unfold dropLeast
  split
  · exact List.Sublist.refl _
  · exact List.eraseP_sublist
def LateInv (t : Tb α) (last seq : Int) : Prop := (∀ r ∈ t, r.id ≤ last ∧ r.used ≤ last ∧ r.last ≤ seq ∧ r.id ≤ r.used ∧ 1 ≤ r.id) ∧ 0 ≤ last ∧ 0 ≤ seq ∧ (last = 0 ∨ ∃ r ∈ t, r.used = last)
theorem late_start : LateInv ([] : Tb α) 0 0 := ⟨fun r h => by simp at h, Int.le_refl _, Int.le_refl _, .inl rfl⟩
theorem late_open {t : Tb α} {last seq : Int} (h : LateInv t last seq) (n : Int) : (openT z t n).2 = decide (last < n) ∧ LateInv (openT z t n).1 (max last n) seq := by
  obtain ⟨h1, h2, h3, h4⟩ := h
  by_cases hn : last < n
  · have hl : ¬ (n < 1 ∨ late t n = true) := by
      rintro (h | h)
      · omega
      · unfold late at h
        obtain ⟨r, hr, hr2⟩ := List.any_eq_true.1 h
        have := h1 r hr
        simp at hr2
        omega
    unfold openT
    rw [if_neg hl, decide_eq_true hn]
    refine ⟨rfl, fun r hr => ?_, by omega, h3, .inr ⟨⟨n, 0, n, z⟩, by simp, by show n = _; omega⟩⟩
    rcases List.mem_append.1 hr with hr | hr
    · have hm : r ∈ t := by
        split at hr
        · exact hr
        · exact (drop_sub t).subset hr
      have := h1 r hm
      omega
    · simp at hr
      subst hr
      exact ⟨by show n ≤ _; omega, by show n ≤ _; omega, h3, Int.le_refl _, by show 1 ≤ n; omega⟩
  · have hl : n < 1 ∨ late t n = true := by
      rcases h4 with h4 | ⟨r, hr, hu⟩
      · left; omega
      · right
        unfold late
        rw [List.any_eq_true]
        exact ⟨r, hr, by simp; left; omega⟩
    unfold openT
    rw [if_pos hl, decide_eq_false hn]
    refine ⟨rfl, fun r hr => ?_, by omega, h3, ?_⟩
    · have := h1 r hr; omega
    · rcases h4 with h4 | ⟨r, hr, hu⟩
      · left; omega
      · exact .inr ⟨r, hr, by omega⟩
theorem late_done {t : Tb α} {last seq : Int} (h : LateInv t last seq) {r : Ro α} (hr : r ∈ t) (n : Int) (x : α) : (doneT z t r.id (seq + 1) n x).2 = decide (last ≤ n) ∧ LateInv (doneT z t r.id (seq + 1) n x).1 (max last n) (seq + 1) := by
  obtain ⟨h1, h2, h3, h4⟩ := h
  have ha : (askT z t r.id (seq + 1)).1 = 1 := by
    unfold askT
    cases hf : rowOf t r.id with
    | none =>
      have := List.find?_eq_none.1 hf r hr
      simp at this
    | some r' =>
      have := h1 r' (List.mem_of_find?_eq_some hf)
      simp only
      rw [if_pos (by omega)]
  by_cases hn : last ≤ n
  · have hl : ¬ ((askT z t r.id (seq + 1)).1 ≠ 1 ∨ (t.any fun r => decide (n < r.used)) = true) := by
      rintro (h | h)
      · exact h ha
      · obtain ⟨r', hr', hu⟩ := List.any_eq_true.1 h
        have := h1 r' hr'
        simp at hu
        omega
    unfold doneT
    rw [if_neg hl, decide_eq_true hn]
    refine ⟨rfl, fun r' hr' => ?_, by omega, by omega, .inr ?_⟩
    · obtain ⟨y, hy, rfl⟩ := List.mem_map.1 hr'
      have h5 := h1 y hy
      by_cases e : y.id = r.id
      · rw [if_pos e]
        exact ⟨by show y.id ≤ _; omega, by show n ≤ _; omega, Int.le_refl _, by show y.id ≤ n; omega, h5.2.2.2.2⟩
      · rw [if_neg e]
        exact ⟨by omega, by omega, by omega, by omega, by omega⟩
    · refine ⟨⟨r.id, seq + 1, n, x⟩, List.mem_map.2 ⟨r, hr, if_pos rfl⟩, by show n = _; omega⟩
  · have hl : (askT z t r.id (seq + 1)).1 ≠ 1 ∨ (t.any fun r => decide (n < r.used)) = true := by
      right
      rcases h4 with h4 | ⟨r', hr', hu⟩
      · have := h1 r hr
        omega
      · rw [List.any_eq_true]
        exact ⟨r', hr', by simp; omega⟩
    unfold doneT
    rw [if_pos hl, decide_eq_false hn]
    refine ⟨rfl, fun r' hr' => ?_, by omega, by omega, ?_⟩
    · have := h1 r' hr'; omega
    · rcases h4 with h4 | ⟨r', hr', hu⟩
      · left; omega
      · exact .inr ⟨r', hr', by omega⟩

/-! ### SessionRoom: eight opened, used in turn, a ninth: the one used the longest ago goes -/
def firsts (j : Nat) : Tb α := (List.range j).map fun (i : Nat) => ⟨(i : Int) + 1, 0, (i : Int) + 1, z⟩
theorem firsts_open {j : Nat} (h : j < 8) : openT z (firsts z j) ((j : Int) + 1) = (firsts z (j + 1), true) := by
  have hl : ¬ ((j : Int) + 1 < 1 ∨ late (firsts z j) ((j : Int) + 1) = true) := by
    rintro (h | h)
    · omega
    · unfold late firsts at h
      obtain ⟨r, hr, hr2⟩ := List.any_eq_true.1 h
      obtain ⟨i, hi, rfl⟩ := List.mem_map.1 hr
      have := List.mem_range.1 hi
      simp at hr2
      omega
  unfold openT
  rw [if_neg hl, if_pos (by unfold firsts; rw [List.length_map, List.length_range]; exact h)]
  unfold firsts
  rw [List.range_succ, List.map_append]
  rfl
def RoomInv (now : Int) (t : Tb α) (last : Int → Int) : Prop :=
  t.map Ro.id = [1, 2, 3, 4, 5, 6, 7, 8] ∧ 8 ≤ now ∧ ∀ r ∈ t, r.used = last r.id ∧ r.last ≤ now ∧ r.used ≤ now
theorem room_start : RoomInv 8 (firsts z 8) fun k => k := by
  refine ⟨rfl, Int.le_refl _, fun r hr => ?_⟩
  obtain ⟨i, hi, rfl⟩ := List.mem_map.1 hr
  have := List.mem_range.1 hi
  refine ⟨rfl, by show (0 : Int) ≤ 8; decide, by show (i : Int) + 1 ≤ 8; omega⟩
theorem room_ids {now : Int} {t : Tb α} {last : Int → Int} (h : RoomInv now t last) {k : Int} : k ∈ t.map Ro.id ↔ 1 ≤ k ∧ k ≤ 8 := by
  rw [h.1]
  simp
  omega
theorem room_row {now : Int} {t : Tb α} {last : Int → Int} (h : RoomInv now t last) {k : Int} (hk : 1 ≤ k ∧ k ≤ 8) : ∃ r, rowOf t k = some r ∧ r ∈ t ∧ r.id = k := by
  obtain ⟨r, hr, rfl⟩ := List.mem_map.1 ((room_ids h).2 hk)
  unfold rowOf
  cases hf : t.find? fun y => decide (y.id = r.id) with
  | none =>
    have := List.find?_eq_none.1 hf r hr
    simp at this
  | some y =>
    exact ⟨y, rfl, List.mem_of_find?_eq_some hf, by have := List.find?_some hf; simpa using this⟩
theorem room_done {now : Int} {t : Tb α} {last : Int → Int} (h : RoomInv now t last) {k : Int} (hk : 1 ≤ k ∧ k ≤ 8) (x : α) :
    ∃ t', doneT z t k (now + 1) (now + 1) x = (t', true) ∧ RoomInv (now + 1) t' fun i => if i = k then now + 1 else last i := by
  obtain ⟨r, hr, hm, he⟩ := room_row h hk
  have ha : askT z t k (now + 1) = (1, z) := by
    unfold askT
    rw [hr]
    simp only
    have := (h.2.2 r hm).2.1
    rw [if_pos (by omega)]
  have hu : ¬ ((askT z t k (now + 1)).1 ≠ 1 ∨ (t.any fun r => decide (now + 1 < r.used)) = true) := by
    rw [ha]
    rintro (h' | h')
    · exact h' rfl
    · obtain ⟨y, hy, hy2⟩ := List.any_eq_true.1 h'
      have := (h.2.2 y hy).2.2
      simp at hy2
      omega
  refine ⟨t.map fun r => if r.id = k then ⟨r.id, now + 1, now + 1, x⟩ else r, by unfold doneT; rw [if_neg hu], ?_, by have := h.2.1; omega, fun y hy => ?_⟩
  · rw [List.map_map, ← h.1]
    refine List.map_congr_left fun y _ => ?_
    show (if y.id = k then _ else y : Ro α).id = y.id
    split <;> rfl
  · obtain ⟨q, hq, rfl⟩ := List.mem_map.1 hy
    have := h.2.2 q hq
    by_cases e : q.id = k
    · rw [if_pos e]
      exact ⟨(if_pos e).symm, Int.le_refl _, Int.le_refl _⟩
    · rw [if_neg e]
      exact ⟨this.1.trans (if_neg e).symm, by omega, by omega⟩
theorem least_some {t : Tb α} (h : t ≠ []) : ∃ m, least t = some m ∧ (∀ r ∈ t, m ≤ r.used) ∧ ∃ r ∈ t, r.used = m := by
  induction t with
  | nil => exact absurd rfl h
  | cons r t ih =>
    cases t with
    | nil => exact ⟨r.used, rfl, fun y hy => by simp at hy; subst hy; exact Int.le_refl _, r, by simp, rfl⟩
    | cons b t =>
      obtain ⟨m, h1, h2, y, h3, h4⟩ := ih (by simp)
      refine ⟨min r.used m, by rw [least, h1], fun x hx => ?_, ?_⟩
      · rcases List.mem_cons.1 hx with rfl | hx
        · omega
        · have := h2 x hx; omega
      · by_cases hc : r.used ≤ m
        · exact ⟨r, by simp, by omega⟩
        · exact ⟨y, List.mem_cons_of_mem _ h3, by omega⟩
/-- where the least stands: the first of the least uses -/
structure LeastAt (last : Int → Int) (L : Int) : Prop where
  low : 1 ≤ L
  high : L ≤ 8
  le : ∀ k, 1 ≤ k → k ≤ 8 → last L ≤ last k
  lt : ∀ k, 1 ≤ k → k < L → last L < last k
/-- the loop that looks for it -/
def seekL (last : Int → Int) : Nat → Int
  | 0 => 1
  | j + 1 => if last ((j : Int) + 2) < last (seekL last j) then (j : Int) + 2 else seekL last j
theorem seek_at (last : Int → Int) (j : Nat) : 1 ≤ seekL last j ∧ seekL last j ≤ (j : Int) + 1 ∧ (∀ k, 1 ≤ k → k ≤ (j : Int) + 1 → last (seekL last j) ≤ last k) ∧ ∀ k, 1 ≤ k → k < seekL last j → last (seekL last j) < last k := by
  induction j with
  | zero =>
    refine ⟨Int.le_refl _, Int.le_refl _, fun k h1 h2 => ?_, fun k h1 h2 => absurd h2 (by show ¬ k < 1; omega)⟩
    have : k = 1 := by omega
    subst this
    exact Int.le_refl _
  | succ j ih =>
    obtain ⟨h1, h2, h3, h4⟩ := ih
    unfold seekL
    split
    · rename_i hlt
      refine ⟨by omega, by push_cast; omega, fun k hk1 hk2 => ?_, fun k hk1 hk2 => ?_⟩
      · by_cases e : k = (j : Int) + 2
        · subst e; exact Int.le_refl _
        · have := h3 k hk1 (by push_cast at hk2; omega)
          omega
      · have := h3 k hk1 (by omega)
        omega
    · rename_i hlt
      refine ⟨h1, by push_cast; omega, fun k hk1 hk2 => ?_, h4⟩
      by_cases e : k = (j : Int) + 2
      · subst e; omega
      · exact h3 k hk1 (by push_cast at hk2; omega)
theorem seek_least (last : Int → Int) : LeastAt last (seekL last 7) := by
  obtain ⟨h1, h2, h3, h4⟩ := seek_at last 7
  exact ⟨h1, h2, h3, h4⟩
theorem room_open {now : Int} {t : Tb α} {last : Int → Int} (h : RoomInv now t last) {L : Int} (hL : LeastAt last L) :
    ∃ t', openT z t (now + 1) = (t', true) ∧ t'.length = 8 ∧ ∀ k s, 1 ≤ k → k ≤ 8 → ((askT z t' k s).1 = 0 ↔ k = L) := by
  have hlen : t.length = 8 := by
    have := congrArg List.length h.1
    rw [List.length_map] at this
    exact this
  have hl : ¬ (now + 1 < 1 ∨ late t (now + 1) = true) := by
    have h8 := h.2.1
    rintro (h' | h')
    · omega
    · obtain ⟨r, hr, hr2⟩ := List.any_eq_true.1 h'
      have := h.2.2 r hr
      have := (room_ids h).1 (List.mem_map.2 ⟨r, hr, rfl⟩)
      simp at hr2
      omega
  obtain ⟨m, hm, hle, b, hb, hbm⟩ := least_some (t := t) (by rintro rfl; simp at hlen)
  obtain ⟨a, A, B, hA, ha, ht, hE⟩ := List.exists_of_eraseP (p := fun r : Ro α => decide (r.used = m)) hb (by simp [hbm])
  have ham : a.used = m := of_decide_eq_true ha
  have hsub : ∀ y, y ∈ A ∨ y ∈ B → y ∈ t := fun y hy => by
    rw [ht]
    rcases hy with hy | hy
    · exact List.mem_append.2 (.inl hy)
    · exact List.mem_append.2 (.inr (List.mem_cons_of_mem _ hy))
  have hat : a ∈ t := by rw [ht]; simp
  have hp : (t.map Ro.id).Pairwise (· < ·) := by rw [h.1]; decide
  rw [ht, List.map_append, List.map_cons, List.pairwise_append, List.pairwise_cons] at hp
  have hpA : ∀ y ∈ A, y.id < a.id := fun y hy => hp.2.2 y.id (List.mem_map.2 ⟨y, hy, rfl⟩) a.id (by simp)
  have hpB : ∀ y ∈ B, a.id < y.id := fun y hy => hp.2.1.1 y.id (List.mem_map.2 ⟨y, hy, rfl⟩)
  have hai := (room_ids h).1 (List.mem_map.2 ⟨a, hat, rfl⟩)
  have hau := (h.2.2 a hat).1
  have haL : a.id = L := by
    obtain ⟨q, hq, hqL⟩ := List.mem_map.1 ((room_ids h).2 ⟨hL.low, hL.high⟩)
    have hqu := (h.2.2 q hq).1
    rw [hqL] at hqu
    have h1 := hle q hq
    have h2 := hL.le a.id hai.1 hai.2
    by_cases h3 : a.id < L
    · have := hL.lt a.id hai.1 h3
      omega
    · by_cases h4 : a.id = L
      · exact h4
      · rw [ht] at hq
        rcases List.mem_append.1 hq with hq | hq
        · have h5 := hA q hq
          simp at h5
          omega
        · rcases List.mem_cons.1 hq with rfl | hq
          · exact hqL
          · have := hpB q hq
            omega
  have hd : dropLeast t = A ++ B := by
    unfold dropLeast
    rw [hm]
    exact hE
  have hlAB : (A ++ B).length = 7 := by
    have := congrArg List.length ht
    rw [hlen] at this
    simp at this ⊢
    omega
  refine ⟨A ++ B ++ [⟨now + 1, 0, now + 1, z⟩], by unfold openT; rw [if_neg hl, if_neg (by omega), hd], by simp at hlAB ⊢; omega, fun k s h1 h2 => ?_⟩
  have hn := h.2.1
  constructor
  · intro h0
    refine Classical.byContradiction fun hk => ?_
    obtain ⟨q, hq, hqk⟩ := List.mem_map.1 ((room_ids h).2 ⟨h1, h2⟩)
    have hq' : q ∈ A ++ B ++ [(⟨now + 1, 0, now + 1, z⟩ : Ro α)] := by
      rw [ht] at hq
      refine List.mem_append.2 (.inl ?_)
      rcases List.mem_append.1 hq with hq | hq
      · exact List.mem_append.2 (.inl hq)
      · rcases List.mem_cons.1 hq with rfl | hq
        · omega
        · exact List.mem_append.2 (.inr hq)
    unfold askT rowOf at h0
    cases hf : (A ++ B ++ [(⟨now + 1, 0, now + 1, z⟩ : Ro α)]).find? fun y => decide (y.id = k) with
    | none =>
      have := List.find?_eq_none.1 hf q hq'
      simp [hqk] at this
    | some y =>
      rw [hf] at h0
      simp only at h0
      split at h0
      · simp at h0
      · split at h0 <;> simp at h0
  · rintro rfl
    unfold askT rowOf
    have : (A ++ B ++ [(⟨now + 1, 0, now + 1, z⟩ : Ro α)]).find? (fun y => decide (y.id = k)) = none := by
      refine List.find?_eq_none.2 fun y hy => ?_
      rcases List.mem_append.1 hy with hy | hy
      · rcases List.mem_append.1 hy with hy | hy
        · have := hpA y hy; simp; omega
        · have := hpB y hy; simp; omega
      · simp at hy
        subst hy
        simp
        omega
    rw [this]
end
end Go.Proofs.Ytnmcgmfpalgpnaa.Se
