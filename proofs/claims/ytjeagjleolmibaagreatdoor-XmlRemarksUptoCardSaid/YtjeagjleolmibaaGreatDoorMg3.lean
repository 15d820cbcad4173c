import Derived.Test.YtjeagjleolmibaaGreatDoorMg2

/-
  PLAIN LAWS OF LAYER xml: what is printed is read as itself ('doc_pr'), also with a remark ahead of a tag ('doc_remark'); it is a valid text.
-/
set_option linter.unusedVariables false
namespace Go.Proofs.YtjeagjleolmibaaGreatDoor.Xm

theorem chunk_o {f o : Bool} {p : Pc} {r : List Pc} (h : p.kind ≠ 2) : chunk f o p r = chunk f false p r := by simp [chunk, h]
theorem chunks_o {o : Bool} {r : List Pc} (h : nextC r = false) : chunks false o r = chunks false false r := by
  cases r with
  | nil => rfl
  | cons q r =>
    unfold chunks
    rw [chunk_o (of_decide_eq_false h)]
theorem chunk_open {f : Bool} {p : Pc} {r : List Pc} (hk : p.kind = 1) (ht : p.text = []) : chunk f false p r = 60 :: (nm p ++ (if f = true then declS else []) ++ (if nextC r = true then [47, 62] else [62])) := by simp [chunk, hk, ht, escT]
theorem chunk_shut {p : Pc} {r : List Pc} (hk : p.kind = 2) (ht : p.text = []) : chunk false true p r = [] := by simp [chunk, hk, ht, escT]
theorem chunk_close {p : Pc} {r : List Pc} (hk : p.kind = 2) (ht : p.text = []) : chunk false false p r = 60 :: 47 :: (nm p ++ [62]) := by simp [chunk, hk, ht, escT]
theorem chunk_chars {f o : Bool} {p : Pc} {r : List Pc} (hk : p.kind = 3) : chunk f o p r = escT p.text := by simp [chunk, hk]
theorem tag_text {p : Pc} (h : okTag p = true) : p.text = [] := by
  unfold okTag at h
  simp only [Bool.and_eq_true, List.isEmpty_iff] at h
  exact h.1.1
/-- what rgt asks of the first piece -/
theorem rgt_cons {f c : Bool} {st : List (Row × Int)} {p : Pc} {r : List Pc} (h : rgt f c st (p :: r) = true) : (f = true ∨ st ≠ []) ∧
    ((p.kind = 1 ∧ okTag p = true ∧ st.length < 16 ∧ rgt false false ((p.name, p.space) :: st) r = true) ∨
     (p.kind = 2 ∧ okTag p = true ∧ ∃ s, st = (p.name, p.space) :: s ∧ rgt false false s r = true) ∨
     (p.kind = 3 ∧ f = false ∧ c = false ∧ okTxt p = true ∧ rgt false true st r = true)) := by
  unfold rgt at h
  simp only [Bool.and_eq_true, Bool.or_eq_true, Bool.not_eq_true', List.isEmpty_eq_false_iff] at h
  obtain ⟨h0, h⟩ := h
  refine ⟨h0, ?_⟩
  split at h
  · rename_i hk
    simp only [Bool.and_eq_true, decide_eq_true_eq] at h
    exact .inl ⟨hk, h.1.1, h.1.2, h.2⟩
  · split at h
    · rename_i hk
      simp only [Bool.and_eq_true] at h
      obtain ⟨h1, h2⟩ := h
      split at h2
      · cases h2
      · rename_i e s
        simp only [Bool.and_eq_true, decide_eq_true_eq] at h2
        exact .inr (.inl ⟨hk, h1, s, by rw [h2.1], h2.2⟩)
    · split at h
      · rename_i hk
        simp only [Bool.and_eq_true, Bool.not_eq_true'] at h
        exact .inr (.inr ⟨hk, h.1.1.1, h.1.1.2, h.1.2, h.2⟩)
      · cases h
/-- the state when all is read -/
def Ended (σ τ : St) (ps : List Pc) : Prop := τ.stack = [] ∧ τ.had = true ∧ τ.pcs = done σ ++ ps
theorem take_flat_zero (c : Row) (C : List Row) : ((c :: C).take 0).flatten = [] := rfl
theorem take_flat_succ (c : Row) (C : List Row) (j : Nat) : ((c :: C).take (j + 1)).flatten = c ++ (C.take j).flatten := by simp
theorem runs_to : ∀ (n : Nat) (ps : List Pc) (f c : Bool) (st : List (Row × Int)) (σ : St), ps.length ≤ n → Inv f c st σ → (f = true → st = []) → (c = true → st ≠ []) → rgt f c st ps = true →
    ∀ j, ∃ τ, Runs σ (((chunks f false ps).take j).flatten) τ ∧ (ps.length ≤ j → Ended σ τ ps)
  | _, [], f, c, st, σ, _, hI, _, hc, hr, j => by
    unfold rgt at hr
    simp only [Bool.and_eq_true, Bool.not_eq_true', List.isEmpty_iff] at hr
    have hc0 : c = false := by
      cases c with
      | false => rfl
      | true => exact absurd hr.2 (hc rfl)
    refine ⟨σ, by simpa [chunks] using Runs.nil σ, fun _ => ⟨hI.nil.2 hr.2, by rw [hI.had, hr.1]; rfl, ?_⟩⟩
    unfold done
    rw [hI.txt hc0, flushed_nil, List.append_nil]
  | 0, p :: r, _, _, _, _, h, _, _, _, _, _ => by simp at h
  | n + 1, p :: r, f, c, st, σ, hn, hI, hf, hc, hr, 0 => ⟨σ, Runs.nil σ, fun h => by simp at h⟩
  | n + 1, p :: r, f, c, st, σ, hn, hI, hf, hc, hr, j + 1 => by
    have hn' : r.length ≤ n := by simpa using hn
    obtain ⟨h0, hk⟩ := rgt_cons hr
    have hch : chunks f false (p :: r) = chunk f false p r :: chunks false (decide (p.kind = 1)) r := rfl
    rw [hch, take_flat_succ]
    rcases hk with ⟨hk, hp, hl, hr'⟩ | ⟨hk, hp, s, hst, hr'⟩ | ⟨hk, hf', hc', hp, hr'⟩
    · rw [chunk_open hk (tag_text hp), decide_eq_true hk]
      cases hx : nextC r with
      | false =>
        rw [if_neg (c := false = true) (by decide), chunks_o hx]
        obtain ⟨τ, h1, h2, h3⟩ := hI.open h0 hf hk hp hl
        obtain ⟨υ, h4, h5⟩ := runs_to n r false false _ τ hn' h2 (fun e => by cases e) (fun e => by cases e) hr' j
        refine ⟨υ, h1.trans h4, fun hj => ?_⟩
        obtain ⟨e1, e2, e3⟩ := h5 (by simpa using hj)
        exact ⟨e1, e2, by rw [e3, h3]; simp⟩
      | true =>
        rw [if_pos rfl]
        cases r with
        | nil => cases hx
        | cons q r =>
          have hq2 : q.kind = 2 := of_decide_eq_true hx
          obtain ⟨_, hk2⟩ := rgt_cons hr'
          rcases hk2 with ⟨e, _⟩ | ⟨_, hq, s, hst, hr2⟩ | ⟨e, _⟩
          · rw [hq2] at e; exact absurd e (by decide)
          · injection hst with e1 e2
            subst e2
            obtain ⟨τ, h1, h2, h3⟩ := hI.both h0 hf hk hp hl hq2 hq e1
            have hch2 : chunks false true (q :: r) = [] :: chunks false false r := by
              show chunk false true q r :: chunks false (decide (q.kind = 1)) r = _
              rw [chunk_shut hq2 (tag_text hq), show decide (q.kind = 1) = false from decide_eq_false (by rw [hq2]; decide)]
            rw [hch2]
            match j with
            | 0 => exact ⟨τ, by rw [take_flat_zero, List.append_nil]; exact h1, fun hj => by simp at hj⟩
            | j + 1 =>
              rw [take_flat_succ, List.nil_append]
              obtain ⟨υ, h4, h5⟩ := runs_to n r false false st τ (by simp at hn'; omega) h2 (fun e => by cases e) (fun e => by cases e) hr2 j
              refine ⟨υ, h1.trans h4, fun hj => ?_⟩
              obtain ⟨e1, e2, e3⟩ := h5 (by simpa using hj)
              exact ⟨e1, e2, by rw [e3, h3]; simp⟩
          · rw [hq2] at e; exact absurd e (by decide)
    · have hf0 : f = false := by
        cases f with
        | false => rfl
        | true => rw [hf rfl] at hst; cases hst
      subst hf0
      rw [chunk_close hk (tag_text hp), show decide (p.kind = 1) = false from decide_eq_false (by rw [hk]; decide)]
      rw [hst] at hI
      obtain ⟨τ, h1, h2, h3⟩ := hI.close hk hp
      obtain ⟨υ, h4, h5⟩ := runs_to n r false false s τ hn' h2 (fun e => by cases e) (fun e => by cases e) hr' j
      refine ⟨υ, h1.trans h4, fun hj => ?_⟩
      obtain ⟨e1, e2, e3⟩ := h5 (by simpa using hj)
      exact ⟨e1, e2, by rw [e3, h3]; simp⟩
    · subst hf'; subst hc'
      have hst : st ≠ [] := h0.resolve_left (by decide)
      rw [chunk_chars hk, show decide (p.kind = 1) = false from decide_eq_false (by rw [hk]; decide)]
      obtain ⟨τ, h1, h2, h3⟩ := hI.chars hst hk hp
      obtain ⟨υ, h4, h5⟩ := runs_to n r false true st τ hn' h2 (fun e => by cases e) (fun _ => hst) hr' j
      refine ⟨υ, h1.trans h4, fun hj => ?_⟩
      obtain ⟨e1, e2, e3⟩ := h5 (by simpa using hj)
      exact ⟨e1, e2, by rw [e3, h3]; simp⟩

theorem inv_init : Inv true false [] (init []) := ⟨rfl, fun e he => (by cases he), fun e => absurd rfl e, fun e he => (by cases he), rfl, fun _ => rfl, fun _ => rfl, fun e => (by cases e)⟩
theorem prolog_tag {x : UInt8} {t : Row} (h : x ≠ 63) : prolog (60 :: x :: t) = some (60 :: x :: t) := by
  unfold prolog
  have e : xmlS.isPrefixOf (60 :: x :: t) = false := by
    rw [show xmlS.isPrefixOf (60 :: x :: t) = ((60 : UInt8) == 60 && ((63 : UInt8) == x && ([120, 109, 108] : Row).isPrefixOf t)) from rfl, beq_eq_false_iff_ne.2 (fun e => h e.symm)]
    simp
  rw [e, if_neg (by decide)]
/-- a document's text begins with an element -/
theorem prX_head {ps : List Pc} (h : right ps = true) : ∃ c t, prX ps = 60 :: c :: t ∧ ftB c = true := by
  cases ps with
  | nil => cases h
  | cons p r =>
    obtain ⟨_, hk⟩ := rgt_cons h
    rcases hk with ⟨hk, hp, _, _⟩ | ⟨_, _, s, hst, _⟩ | ⟨_, hf, _⟩
    · obtain ⟨c, t, ht, hc⟩ := nm_head p (tag_eq hk hp).2.2
      refine ⟨c, t ++ declS ++ (if nextC r = true then [47, 62] else [62]) ++ (chunks false (decide (p.kind = 1)) r).flatten, ?_, hc⟩
      show (chunk true false p r :: chunks false _ r).flatten = _
      rw [List.flatten_cons, chunk_open hk (tag_text hp), ht]
      simp
    · cases hst
    · cases hf
theorem go_pr {ps : List Pc} (h : right ps = true) : ∃ τ, go (init (prX ps)) = some τ ∧ fin τ = some ps := by
  obtain ⟨τ, h1, h2⟩ := runs_to ps.length ps true false [] (init []) (Nat.le_refl _) inv_init (fun _ => rfl) (fun e => by cases e) h (chunks true false ps).length
  rw [List.take_length] at h1
  have hlen : ps.length ≤ (chunks true false ps).length := by
    have : ∀ (ps : List Pc) (f o : Bool), (chunks f o ps).length = ps.length := fun ps => by
      induction ps with
      | nil => intro f o; rfl
      | cons p r ih => intro f o; show (chunks false _ r).length + 1 = _; rw [ih]; rfl
    rw [this]; exact Nat.le_refl _
  obtain ⟨e1, e2, e3⟩ := h2 hlen
  have := h1 []
  rw [List.append_nil] at this
  refine ⟨τ.at [], ?_, ?_⟩
  · show go ((init []).at (prX ps)) = _
    exact this.trans (go_nil rfl)
  · unfold fin
    rw [if_pos ⟨e2, e1⟩]
    show some τ.pcs = _
    rw [e3]; rfl
theorem doc_pr {ps : List Pc} (h : right ps = true) : docP (prX ps) = some ps := by
  obtain ⟨c, t, e, hc⟩ := prX_head h
  obtain ⟨τ, h1, h2⟩ := go_pr h
  unfold docP
  rw [e, prolog_tag (ft_ne hc).2.2, ← e, Option.bind_some, h1, Option.bind_some, h2]

/-! ### valid -/
theorem esc_no : ∀ c : UInt8, (60 : UInt8) ∉ esc c := fun c => Ch.byte_all (P := fun c => (60 : UInt8) ∉ esc c) (by decide +kernel) c
theorem escT_no (t : Row) : (60 : UInt8) ∉ escT t := fun h => by
  obtain ⟨c, _, hc⟩ := List.mem_flatMap.1 h
  exact esc_no c hc
theorem nx_no60 : nxB 60 = false := by decide
theorem nm_no {p : Pc} (h : nameB p.name = true) : (60 : UInt8) ∉ nm p := fun hm => by
  have h1 : (60 : UInt8) ∉ p.name := fun e => by have := nameB_all h 60 e; rw [nx_no60] at this; cases this
  unfold nm at hm
  split at hm
  · simp at hm; exact h1 hm
  · split at hm
    · simp at hm; exact h1 hm
    · exact h1 hm
theorem valid_one {x : UInt8} (h : x.toNat < 128) (hc : Ch.ctl x = false) : Ch.valid [x] = true :=
  Ch.byte_all (P := fun x => x.toNat < 128 → Ch.ctl x = false → Ch.valid [x] = true) (by decide +kernel) x h hc
theorem valid_ascii : ∀ (l : Row), (∀ x ∈ l, x.toNat < 128 ∧ Ch.ctl x = false) → Ch.valid l = true
  | [], _ => rfl
  | x :: l, h => by
    have h1 := h x (by simp)
    have := Ch.valid_join [x] l (valid_one h1.1 h1.2)
    rw [List.singleton_append] at this
    rw [this]
    exact valid_ascii l (fun y hy => h y (by simp [hy]))
theorem valid_both {a b : Row} (h : Ch.valid a = true) (k : Ch.valid b = true) : Ch.valid (a ++ b) = true := by rw [Ch.valid_join a b h, k]
theorem nx_ascii (c : UInt8) (h : nxB c = true) : c.toNat < 128 ∧ Ch.ctl c = false :=
  Ch.byte_all (P := fun c => nxB c = true → c.toNat < 128 ∧ Ch.ctl c = false) (by decide +kernel) c h
theorem valid_name {n : Row} (h : nameB n = true) : Ch.valid n = true := valid_ascii n fun x hx => nx_ascii x (nameB_all h x hx)
theorem valid_nm {p : Pc} (h : nameB p.name = true) : Ch.valid (nm p) = true := by
  unfold nm
  split
  · exact valid_both (a := [68, 58]) (by decide +kernel) (valid_name h)
  · split
    · exact valid_both (a := [67, 58]) (by decide +kernel) (valid_name h)
    · exact valid_name h
theorem esc_big (c : UInt8) (h : 128 ≤ c.toNat) : esc c = [c] :=
  Ch.byte_all (P := fun c => 128 ≤ c.toNat → esc c = [c]) (by decide +kernel) c h
theorem esc_valid (c : UInt8) (h : Ch.valid [c] = true) : Ch.valid (esc c) = true :=
  Ch.byte_all (P := fun c => Ch.valid [c] = true → Ch.valid (esc c) = true) (by decide +kernel) c h
theorem escT_append (a b : Row) : escT (a ++ b) = escT a ++ escT b := by simp [escT]
theorem escT_big : ∀ (l : Row), (∀ x ∈ l, 128 ≤ x.toNat) → escT l = l
  | [], _ => rfl
  | x :: l, h => by
    have e : escT (x :: l) = esc x ++ escT l := by simp [escT]
    rw [e, esc_big x (h x (by simp)), escT_big l (fun y hy => h y (by simp [hy]))]; rfl
end Go.Proofs.YtjeagjleolmibaaGreatDoor.Xm

/-
  PLAIN LAWS OF LAYER xml: a printed document is a valid text; a remark ahead of a tag changes nothing.
-/
set_option linter.unusedVariables false
namespace Go.Proofs.YtjeagjleolmibaaGreatDoor.Xm

theorem valid_esc : ∀ (n : Nat) (t : Row), t.length ≤ n → Ch.valid t = true → Ch.valid (escT t) = true
  | _, [], _, _ => rfl
  | 0, _ :: _, h, _ => by simp at h
  | n + 1, x :: l, hn, h => by
    have hne : x :: l ≠ [] := by simp
    have hs := Ch.valid_step (x :: l) hne
    rw [h] at hs
    split at hs
    · cases hs
    · rename_i h0
      have hk0 : (Ch.rune (x :: l)).2 ≠ 0 := fun e => h0 (.inl e)
      obtain ⟨h1, h2, _, h4⟩ := Ch.rune_tells hne hk0
      obtain ⟨k, hk⟩ : ∃ k, (Ch.rune (x :: l)).2 = k := ⟨_, rfl⟩
      rw [hk] at hs hk0 h1 h2 h4
      have ih := valid_esc n ((x :: l).drop k) (by rw [List.length_drop]; omega) hs.symm
      have hcut := (Ch.valid_cut (x :: l) h k h1)
      have hb : Ch.valid ((x :: l).take k) = true := by rw [hcut.1, ← hcut.2]; exact hs.symm
      have e : x :: l = (x :: l).take k ++ (x :: l).drop k := (List.take_append_drop _ _).symm
      rw [e, escT_append]
      refine valid_both ?_ ih
      rcases h4 with ⟨q, q'⟩ | ⟨q, q'⟩
      · have hk1 : k = 1 := by rw [q'] at hk; exact hk.symm
        rw [hk1] at hb ⊢
        have e2 : escT ((x :: l).take 1) = esc x := by simp [escT]
        rw [e2]
        exact esc_valid x (by simpa using hb)
      · rw [escT_big]
        · exact hb
        · intro y hy
          obtain ⟨i, hi, rfl⟩ := List.mem_iff_getElem.1 hy
          rw [List.length_take] at hi
          rw [List.getElem_take]
          match i, hi with
          | 0, _ => simp at q ⊢; omega
          | i + 1, hi =>
            have := h2 (i + 1) (by omega) (by omega)
            unfold Ch.cont at this
            rw [List.getD_eq_getElem?_getD, List.getElem?_eq_getElem (by omega)] at this
            exact this.1
/-- what is asked of a piece that is printed -/
def okP (p : Pc) : Prop := (p.kind = 1 ∨ p.kind = 2 → nameB p.name = true) ∧ Ch.valid p.text = true
theorem rgt_ok : ∀ (ps : List Pc) (f c : Bool) (st : List (Row × Int)), rgt f c st ps = true → ∀ p ∈ ps, okP p
  | [], _, _, _, _, p, hp => by cases hp
  | q :: r, f, c, st, h, p, hp => by
    obtain ⟨_, hk⟩ := rgt_cons h
    rcases hk with ⟨hk, ho, _, hr⟩ | ⟨hk, ho, s, _, hr⟩ | ⟨hk, _, _, ho, hr⟩
    · rcases List.mem_cons.1 hp with rfl | hp
      · exact ⟨fun _ => (tag_eq hk ho).2.2, by rw [tag_text ho]; rfl⟩
      · exact rgt_ok r _ _ _ hr p hp
    · rcases List.mem_cons.1 hp with rfl | hp
      · exact ⟨fun _ => (tag_eq hk ho).2.2, by rw [tag_text ho]; rfl⟩
      · exact rgt_ok r _ _ _ hr p hp
    · rcases List.mem_cons.1 hp with rfl | hp
      · refine ⟨fun e => ?_, ?_⟩
        · rw [hk] at e; rcases e with e | e <;> exact absurd e (by decide)
        · unfold okTxt at ho
          simp only [Bool.and_eq_true] at ho
          exact ho.2.1
      · exact rgt_ok r _ _ _ hr p hp
theorem chunk_valid (f o : Bool) {p : Pc} (r : List Pc) (h : okP p) : Ch.valid (chunk f o p r) = true := by
  have ht := valid_esc _ p.text (Nat.le_refl _) h.2
  have hd : Ch.valid declS = true := by decide +kernel
  unfold chunk
  by_cases h1 : p.kind = 1
  · rw [if_pos h1, if_neg (c := p.kind = 2 ∧ o = false) (fun e => by rw [h1] at e; exact absurd e.1 (by decide)), List.nil_append]
    have hn := valid_nm (h.1 (.inl h1))
    refine valid_both (valid_both (a := [60]) (by decide +kernel) (valid_both (valid_both hn ?_) ?_)) ht
    · split
      · exact hd
      · rfl
    · split <;> decide +kernel
  · rw [if_neg h1, List.nil_append]
    by_cases h2 : p.kind = 2 ∧ o = false
    · rw [if_pos h2]
      exact valid_both (valid_both (a := [60, 47]) (by decide +kernel) (valid_both (valid_nm (h.1 (.inr h2.1))) (by decide +kernel))) ht
    · rw [if_neg h2]; exact ht
theorem chunk_no (f o : Bool) {p : Pc} (r : List Pc) (h : okP p) : (60 : UInt8) ∉ (chunk f o p r).tail := by
  have ht := escT_no p.text
  have hd : (60 : UInt8) ∉ declS := by decide
  unfold chunk
  by_cases h1 : p.kind = 1
  · rw [if_pos h1, if_neg (c := p.kind = 2 ∧ o = false) (fun e => by rw [h1] at e; exact absurd e.1 (by decide)), List.nil_append]
    have hn := nm_no (h.1 (.inl h1))
    rw [List.cons_append, List.tail_cons]
    simp only [List.mem_append]
    rintro (((h | h) | h) | h)
    · exact hn h
    · split at h
      · exact hd h
      · cases h
    · split at h <;> revert h <;> decide
    · exact ht h
  · rw [if_neg h1, List.nil_append]
    by_cases h2 : p.kind = 2 ∧ o = false
    · rw [if_pos h2]
      have hn := nm_no (h.1 (.inr h2.1))
      simp only [List.cons_append, List.tail_cons, List.append_assoc, List.mem_cons, List.mem_append]
      rintro (h | h | h | h)
      · revert h; decide
      · exact hn h
      · revert h; decide
      · rcases h with h | h
        · cases h
        · exact ht h
    · rw [if_neg h2, List.nil_append]
      exact fun e => ht (List.mem_of_mem_tail e)
theorem chunks_all {Q : Row → Prop} (hQ : ∀ (f o : Bool) (p : Pc) (r : List Pc), okP p → Q (chunk f o p r)) : ∀ (ps : List Pc) (f o : Bool), (∀ p ∈ ps, okP p) → ∀ c ∈ chunks f o ps, Q c
  | [], _, _, _, c, hc => by cases hc
  | p :: r, f, o, h, c, hc => by
    rcases List.mem_cons.1 hc with rfl | hc
    · exact hQ f o p r (h p (by simp))
    · exact chunks_all hQ r _ _ (fun q hq => h q (by simp [hq])) c hc
theorem valid_flat : ∀ (C : List Row), (∀ c ∈ C, Ch.valid c = true) → Ch.valid C.flatten = true
  | [], _ => rfl
  | c :: C, h => by
    rw [List.flatten_cons]
    exact valid_both (h c (by simp)) (valid_flat C (fun d hd => h d (by simp [hd])))
theorem valid_pr {ps : List Pc} (h : right ps = true) : Ch.valid (prX ps) = true :=
  valid_flat _ (chunks_all (fun f o p r hp => chunk_valid f o r hp) ps true false (rgt_ok ps _ _ _ h))
/-- the marks stand at chunks' beginnings -/
theorem at_mark : ∀ (C : List Row), (∀ c ∈ C, (60 : UInt8) ∉ c.tail) → ∀ k, C.flatten[k]? = some 60 → ∃ j, C.flatten.take k = (C.take j).flatten
  | [], _, k, h => by simp at h
  | c :: C, hC, k, h => by
    rw [List.flatten_cons] at h ⊢
    by_cases hk : k < c.length
    · match k with
      | 0 => exact ⟨0, by simp⟩
      | k + 1 =>
        cases c with
        | nil => simp at hk
        | cons x t =>
          have hkt : k < t.length := by simpa using hk
          rw [List.cons_append, List.getElem?_cons_succ, List.getElem?_append_left hkt] at h
          exact absurd (List.mem_of_getElem? h) (hC (x :: t) (by simp))
    · rw [List.getElem?_append_right (by omega)] at h
      obtain ⟨j, hj⟩ := at_mark C (fun d hd => hC d (by simp [hd])) (k - c.length) h
      refine ⟨j + 1, ?_⟩
      rw [take_flat_succ, ← hj, List.take_append, List.take_of_length_le (by omega)]
def remarkT (t : Row) : Row := remarkS ++ t ++ [45, 45, 62]
/-- a remark ahead of a tag or at the end -/
theorem doc_remark {ps : List Pc} (h : right ps = true) (k : Nat) (hk : k = (prX ps).length ∨ (prX ps)[k]? = some 60) (t : Row) (h1 : ∀ i, t.getD i 0 = 45 → t.getD (i + 1) 0 = 45 → t.length ≤ i + 1) (h2 : t.getLast? ≠ some 45) :
    docP ((prX ps).take k ++ remarkT t ++ (prX ps).drop k) = some ps := by
  obtain ⟨c, u, e, hc⟩ := prX_head h
  have hj : ∃ j, (prX ps).take k = ((chunks true false ps).take j).flatten := by
    rcases hk with rfl | hk
    · exact ⟨(chunks true false ps).length, by rw [List.take_length, List.take_length]; rfl⟩
    · exact at_mark _ (chunks_all (fun f o p r hp => chunk_no f o r hp) ps true false (rgt_ok ps _ _ _ h)) k hk
  obtain ⟨j, hj⟩ := hj
  obtain ⟨τ, r1, _⟩ := runs_to ps.length ps true false [] (init []) (Nat.le_refl _) inv_init (fun _ => rfl) (fun e => by cases e) h j
  rw [← hj] at r1
  have r2 := runs_remark τ t h1 h2
  obtain ⟨υ, g1, g2⟩ := go_pr h
  have r3 : go (init ((prX ps).take k ++ remarkT t ++ (prX ps).drop k)) = go (init (prX ps)) := by
    show go ((init []).at ((prX ps).take k ++ remarkT t ++ (prX ps).drop k)) = go ((init []).at (prX ps))
    rw [List.append_assoc, r1]
    show go (τ.at (remarkS ++ t ++ [45, 45, 62] ++ (prX ps).drop k)) = _
    rw [r2, ← r1, List.take_append_drop]
  have hp : prolog ((prX ps).take k ++ remarkT t ++ (prX ps).drop k) = some ((prX ps).take k ++ remarkT t ++ (prX ps).drop k) := by
    have : ∃ x v, (prX ps).take k ++ remarkT t ++ (prX ps).drop k = 60 :: x :: v ∧ x ≠ 63 := by
      rw [e]
      match k with
      | 0 => exact ⟨33, _, rfl, by decide⟩
      | 1 => exact ⟨60, _, rfl, by decide⟩
      | k + 2 => exact ⟨c, _, rfl, (ft_ne hc).2.2⟩
    obtain ⟨x, v, q, hx⟩ := this
    rw [q, prolog_tag hx]
  unfold docP
  rw [hp, Option.bind_some, r3, g1, Option.bind_some, g2]
/-- which text it is -/
theorem valid_remark {ps : List Pc} (h : right ps = true) (k : Nat) (hk : k = (prX ps).length ∨ (prX ps)[k]? = some 60) (t : Row) : Ch.valid ((prX ps).take k ++ remarkT t ++ (prX ps).drop k) = Ch.valid t := by
  have hv := valid_pr h
  have hkl : k ≤ (prX ps).length := by
    rcases hk with rfl | hk
    · exact Nat.le_refl _
    · obtain ⟨h1, _⟩ := List.getElem?_eq_some_iff.1 hk; omega
  have hb : Ch.between (prX ps) k = true := by
    unfold Ch.between
    refine decide_eq_true ?_
    rcases hk with rfl | hk
    · exact .inl rfl
    · right; left; rw [List.getD_eq_getElem?_getD, hk]; decide
  obtain ⟨c1, c2⟩ := Ch.valid_cut _ hv k hkl
  rw [hb] at c1 c2
  obtain ⟨A, hA⟩ : ∃ A, (prX ps).take k = A := ⟨_, rfl⟩
  obtain ⟨B, hB⟩ : ∃ B, (prX ps).drop k = B := ⟨_, rfl⟩
  rw [hA] at c1 ⊢
  rw [hB] at c2 ⊢
  have e : A ++ remarkT t ++ B = (A ++ remarkS) ++ (t ++ (([45, 45, 62] : Row) ++ B)) := by simp [remarkT]
  have hz : Ch.valid (([45, 45, 62] : Row) ++ B) = true := valid_both (by decide +kernel) c2
  rw [e, Ch.valid_join _ _ (valid_both c1 (by decide +kernel))]
  cases hw : Ch.valid t with
  | true => exact valid_both hw hz
  | false =>
    cases hx : Ch.valid (t ++ (([45, 45, 62] : Row) ++ B)) with
    | false => rfl
    | true =>
      have hcut := (Ch.valid_cut _ hx t.length (by simp)).1
      rw [List.take_left] at hcut
      rw [hw] at hcut
      unfold Ch.between at hcut
      have := of_decide_eq_false hcut.symm
      refine absurd ?_ this
      right; left
      rw [List.getD_eq_getElem?_getD, List.getElem?_append_right (Nat.le_refl _), Nat.sub_self]
      show (45 : UInt8).toNat < 128
      decide
end Go.Proofs.YtjeagjleolmibaaGreatDoor.Xm

/-
  PLAIN LAWS OF LAYER xml: how deep elements may lie; prefixes count for nothing; characters told by their numbers.
-/
set_option linter.unusedVariables false
namespace Go.Proofs.YtjeagjleolmibaaGreatDoor.Xm

/-! ### how deep -/
def eO : Row := [60, 101, 62]
def eC : Row := [60, 47, 101, 62]
def pO : Pc := ⟨1, 0, [101], []⟩
def pC : Pc := ⟨2, 0, [101], []⟩
def reps (n : Nat) (a : Row) : Row := (List.replicate n a).flatten
theorem reps_succ (n : Nat) (a : Row) : reps (n + 1) a = a ++ reps n a := by simp [reps, List.replicate_succ]
theorem reps_snoc (n : Nat) (a : Row) : reps (n + 1) a = reps n a ++ a := by simp [reps, List.replicate_succ']
/-- n elements open -/
def nest (n : Nat) (ps : List Pc) : St := ⟨[], List.replicate n ⟨[], [101], 0, []⟩, [], ps, [], decide (ps ≠ [])⟩
theorem decide_snoc (ps : List Pc) (p : Pc) : decide (ps ++ [p] ≠ []) = true := by simp
theorem nest_open (n : Nat) (ps : List Pc) (h : n < 16) (h0 : n = 0 → ps = []) : Runs (nest n ps) eO (nest (n + 1) (ps ++ [pO])) := by
  have := runs_open (nest n ps) 101 [] [] [] [101] [] 0 (by decide) (fun X => written_bare [101] (62 :: X) (by decide) (fun x hx => by cases hx; decide)) (fun X => decls_none 62 X (by decide)) rfl
    (by simp [nest]; exact h) (fun e => by
      have : n = 0 := by simpa [nest] using e
      simp [nest, h0 this])
  have e : (⟨[], ⟨[], [101], 0, []⟩ :: List.replicate n ⟨[], [101], 0, []⟩, [], flushed ps [] ++ [⟨1, 0, [101], []⟩], [], true⟩ : St) = nest (n + 1) (ps ++ [pO]) := by
    unfold nest
    rw [flushed_nil, decide_snoc, List.replicate_succ]; rfl
  rw [← e]
  exact this
theorem nest_close (n : Nat) (ps : List Pc) (hps : ps ≠ []) : Runs (nest (n + 1) ps) eC (nest n (ps ++ [pC])) := by
  have := runs_close (nest (n + 1) ps) [101] [] [101] ⟨[], [101], 0, []⟩ (List.replicate n ⟨[], [101], 0, []⟩) rfl (fun X => written_bare [101] (62 :: X) (by decide) (fun x hx => by cases hx; decide)) rfl rfl
  have e : (⟨[], List.replicate n ⟨[], [101], 0, []⟩, [], flushed ps [] ++ [⟨2, 0, [101], []⟩], [], decide (ps ≠ [])⟩ : St) = nest n (ps ++ [pC]) := by
    unfold nest
    rw [flushed_nil, decide_snoc, decide_eq_true hps]; rfl
  rw [← e]
  exact this
theorem nest_opens : ∀ (n : Nat), n ≤ 16 → Runs (nest 0 []) (reps n eO) (nest n (List.replicate n pO))
  | 0, _ => Runs.nil _
  | n + 1, h => by
    rw [reps_snoc, List.replicate_succ']
    exact (nest_opens n (by omega)).trans (nest_open n _ (by omega) (fun e => by rw [e]; rfl))
theorem nest_closes : ∀ (n : Nat) (ps : List Pc), ps ≠ [] → Runs (nest n ps) (reps n eC) (nest 0 (ps ++ List.replicate n pC))
  | 0, ps, _ => by rw [List.replicate_zero, List.append_nil]; exact Runs.nil _
  | n + 1, ps, h => by
    have := (nest_close n ps h).trans (nest_closes n (ps ++ [pC]) (by simp))
    rw [reps_succ]
    rw [List.append_assoc, List.singleton_append, ← List.replicate_succ] at this
    exact this
theorem deep_prolog (k : Nat) (hk : k ≠ 0) : prolog (reps k eO ++ reps k eC) = some (reps k eO ++ reps k eC) := by
  obtain ⟨k, rfl⟩ := Nat.exists_eq_succ_of_ne_zero hk
  rw [reps_succ]
  exact prolog_tag (x := 101) (by decide)
theorem doc_deep (k : Nat) (h0 : k ≠ 0) (h : k ≤ 16) : docP (reps k eO ++ reps k eC) = some (List.replicate k pO ++ List.replicate k pC) := by
  have hr := (nest_opens k h).trans (nest_closes k (List.replicate k pO) (by cases k with | zero => exact absurd rfl h0 | succ k => simp [List.replicate_succ]))
  have := hr []
  rw [List.append_nil] at this
  unfold docP
  rw [deep_prolog k h0, Option.bind_some]
  show (go ((nest 0 []).at (reps k eO ++ reps k eC))).bind fin = _
  rw [this, go_nil rfl, Option.bind_some]
  unfold fin
  have hne : decide (List.replicate k pO ++ List.replicate k pC ≠ []) = true := by
    refine decide_eq_true ?_
    cases k with
    | zero => exact absurd rfl h0
    | succ k => simp [List.replicate_succ]
  rw [if_pos ⟨hne, rfl⟩]
  rfl
theorem doc_deeper (k : Nat) (h : 16 < k) : docP (reps k eO ++ reps k eC) = none := by
  have e : reps k eO = reps 16 eO ++ (eO ++ reps (k - 17) eO) := by
    rw [← reps_succ]
    unfold reps
    rw [← List.flatten_append, List.replicate_append_replicate, show 16 + (k - 17 + 1) = k by omega]
  unfold docP
  rw [deep_prolog k (by omega), Option.bind_some]
  show (go ((nest 0 []).at (reps k eO ++ reps k eC))).bind fin = _
  rw [e, List.append_assoc, nest_opens 16 (Nat.le_refl _)]
  rw [go_none (by simp [St.at, eO]) (by
    show step ((nest 16 (List.replicate 16 pO)).at (60 :: 101 :: (62 :: (reps (k - 17) eO ++ reps k eC)))) = none
    rw [step_open (σ := (nest 16 (List.replicate 16 pO)).at (60 :: 101 :: (62 :: (reps (k - 17) eO ++ reps k eC)))) (by decide) rfl (fun e => by cases e)]
    unfold opens
    rw [if_pos (by simp [nest, St.at])])]
  rfl
/-- the pieces of nested elements are right, unless too deep -/
theorem rgt_closes : ∀ (n : Nat), n ≠ 0 → rgt false false (List.replicate n ([101], 0)) (List.replicate n pC) = true
  | 0, h => absurd rfl h
  | n + 1, _ => by
    rw [List.replicate_succ, List.replicate_succ]
    unfold rgt
    have : rgt false false (List.replicate n ([101], 0)) (List.replicate n pC) = true := by
      cases n with
      | zero => rfl
      | succ n => exact rgt_closes (n + 1) (by simp)
    rw [if_neg (show ¬ pC.kind = 1 by decide), if_pos (show pC.kind = 2 from rfl)]
    show (true && (okTag pC && (decide ((([101], 0) : Row × Int) = (pC.name, pC.space)) && rgt false false (List.replicate n ([101], 0)) (List.replicate n pC)))) = true
    rw [this]
    decide
theorem rgt_opens : ∀ (m n : Nat) (f : Bool), n + m ≠ 0 → (f = true ∨ n ≠ 0) → rgt f false (List.replicate n ([101], 0)) (List.replicate m pO ++ List.replicate (n + m) pC) = (decide (n + m ≤ 16) || decide (m = 0))
  | 0, n, f, h, hf => by
    rw [List.replicate_zero, List.nil_append, Nat.add_zero]
    have hn : n ≠ 0 := by omega
    have := rgt_closes n hn
    have e : rgt f false (List.replicate n ([101], 0)) (List.replicate n pC) = rgt false false (List.replicate n ([101], 0)) (List.replicate n pC) := by
      obtain ⟨n, rfl⟩ := Nat.exists_eq_succ_of_ne_zero hn
      rw [List.replicate_succ, List.replicate_succ]
      unfold rgt
      simp [pC]
    rw [e, this]; simp
  | m + 1, n, f, h, hf => by
    have ih := rgt_opens m (n + 1) false (by omega) (.inr (by omega))
    rw [List.replicate_succ (a := pO), List.cons_append]
    unfold rgt
    rw [show n + (m + 1) = n + 1 + m by omega, if_pos (show pO.kind = 1 from rfl)]
    rw [show ((pO.name, pO.space) :: List.replicate n (([101], 0) : Row × Int)) = List.replicate (n + 1) ([101], 0) from rfl, ih, List.length_replicate]
    have hok : okTag pO = true := by decide
    have hft : (f || !(List.replicate n (([101], 0) : Row × Int)).isEmpty) = true := by
      rcases hf with rfl | hf
      · rfl
      · obtain ⟨n, rfl⟩ := Nat.exists_eq_succ_of_ne_zero hf
        simp [List.replicate_succ]
    rw [hok, hft, Bool.true_and, Bool.true_and]
    by_cases h1 : n + 1 + m ≤ 16
    · rw [decide_eq_true h1, decide_eq_true (show n < 16 by omega)]; rfl
    · rw [decide_eq_false h1, Bool.false_or, show decide (m + 1 = 0) = false from rfl, Bool.false_or]
      by_cases h2 : m = 0
      · rw [decide_eq_false (show ¬ n < 16 by omega)]; rfl
      · rw [decide_eq_false h2, Bool.and_false]
theorem right_deep (k : Nat) (h0 : k ≠ 0) : right (List.replicate k pO ++ List.replicate k pC) = decide (k ≤ 16) := by
  have := rgt_opens k 0 true (by omega) (.inl rfl)
  rw [Nat.zero_add, decide_eq_false h0, Bool.or_false] at this
  exact this

/-! ### prefixes -/
theorem written_none {p n r : Row} (h : nameB p = true) (h' : nameB n = true) (hr : ∀ x, r.head? = some x → nxB x = false) : written (p ++ 58 :: (n ++ r)) = some (p, n, r) := written_pre p n r h h' hr
def q39 : Row := [39]
/-- an element that declares its own prefix -/
theorem doc_own {p n : Row} (hp : nameB p = true) (hn : nameB n = true) : docP (60 :: (p ++ 58 :: (n ++ 32 :: (xmlnsS ++ 58 :: (p ++ 61 :: 39 :: (davS ++ [39, 47, 62])))))) = some [⟨1, 1, n, []⟩, ⟨2, 1, n, []⟩] := by
  cases p with
  | nil => cases hp
  | cons c t =>
    have hc := nameB_head hp
    have hr := runs_both (init []) c (t ++ 58 :: n) (32 :: (xmlnsS ++ 58 :: ((c :: t) ++ 61 :: 39 :: (davS ++ [39])))) (c :: t) n [(c :: t, 1)] 1 hc (fun X => by
        have := written_pre (c :: t) n (32 :: (xmlnsS ++ 58 :: ((c :: t) ++ 61 :: 39 :: (davS ++ 39 :: 47 :: 62 :: X)))) hp hn (fun x hx => by cases hx; decide)
        simpa using this) (fun X => by
        have := decls_pre (c :: t) davS (47 :: 62 :: X) 39 [] hp (.inr rfl) (by decide) (by decide) rfl
        rw [declsA_end (t := 47 :: 62 :: X) rfl, show List.dropWhile blk (47 :: 62 :: X) = 47 :: 62 :: X from rfl, show spaceOf davS = 1 from by decide] at this
        simpa using this) (by
        unfold spOf
        rw [if_neg (by simp)]
        simp [look, init]) (by decide) (fun _ => rfl)
    have := hr []
    rw [List.append_nil] at this
    have e : (60 :: ((c :: t) ++ 58 :: (n ++ 32 :: (xmlnsS ++ 58 :: ((c :: t) ++ 61 :: 39 :: (davS ++ [39, 47, 62]))))) : Row) = 60 :: c :: (t ++ 58 :: n ++ (32 :: (xmlnsS ++ 58 :: ((c :: t) ++ 61 :: 39 :: (davS ++ [39])))) ++ [47, 62]) := by simp
    rw [e]
    unfold docP
    rw [prolog_tag (ft_ne hc).2.2, Option.bind_some]
    show (go ((init []).at (60 :: c :: _))).bind fin = _
    rw [this, go_nil rfl, Option.bind_some]
    rfl
/-- a prefix that nothing declares -/
theorem doc_undeclared {p n : Row} (hp : nameB p = true) (hn : nameB n = true) : docP (60 :: (p ++ 58 :: (n ++ [47, 62]))) = none := by
  cases p with
  | nil => cases hp
  | cons c t =>
    have hc := nameB_head hp
    unfold docP
    rw [show (60 :: ((c :: t) ++ 58 :: (n ++ [47, 62])) : Row) = 60 :: c :: (t ++ 58 :: (n ++ [47, 62])) from rfl, prolog_tag (ft_ne hc).2.2, Option.bind_some]
    rw [go_none (by simp [init]) (by
      rw [step_open (σ := init (60 :: c :: (t ++ 58 :: (n ++ [47, 62])))) hc rfl (fun _ => rfl)]
      unfold opens
      rw [if_neg (by show ¬ 16 ≤ 0; decide), show (c :: (t ++ 58 :: (n ++ [47, 62])) : Row) = (c :: t) ++ 58 :: (n ++ [47, 62]) from rfl, written_pre (c :: t) n [47, 62] hp hn (fun x hx => by cases hx; decide), Option.bind_some]
      simp only
      rw [decls_none 47 [62] (by decide), Option.bind_some]
      simp only
      unfold spOf
      rw [if_neg (by simp)]
      rfl)]
    rfl
/-- a prefix that the element around declares -/
theorem doc_around {p n : Row} (hp : nameB p = true) (hn : nameB n = true) : docP (60 :: 111 :: 32 :: (xmlnsS ++ 58 :: (p ++ 61 :: 39 :: (davS ++ 39 :: 32 :: (xmlnsS ++ 61 :: 39 :: ([117, 114, 110, 58, 120] ++ 39 :: 62 :: 60 :: (p ++ 58 :: (n ++ 47 :: 62 :: 60 :: 47 :: 111 :: [62]))))))))
    = some [⟨1, 3, [111], []⟩, ⟨1, 1, n, []⟩, ⟨2, 1, n, []⟩, ⟨2, 3, [111], []⟩] := by
  cases p with
  | nil => cases hp
  | cons c t =>
    have hc := nameB_head hp
    have h1 := runs_open (init []) 111 [] (32 :: (xmlnsS ++ 58 :: ((c :: t) ++ 61 :: 39 :: (davS ++ 39 :: 32 :: (xmlnsS ++ 61 :: 39 :: ([117, 114, 110, 58, 120] ++ [39])))))) [] [111] [([], 3), (c :: t, 1)] 3 (by decide) (fun X => by
        have := written_bare [111] (32 :: (xmlnsS ++ 58 :: ((c :: t) ++ 61 :: 39 :: (davS ++ 39 :: 32 :: (xmlnsS ++ 61 :: 39 :: ([117, 114, 110, 58, 120] ++ 39 :: 62 :: X)))))) (by decide) (fun x hx => by cases hx; decide)
        simpa using this) (fun X => by
        have := decls_pre (c :: t) davS (32 :: (xmlnsS ++ 61 :: 39 :: ([117, 114, 110, 58, 120] ++ 39 :: 62 :: X))) 39 [] hp (.inr rfl) (by decide) (by decide) rfl
        rw [decls_bare [117, 114, 110, 58, 120] (62 :: X) 39 _ (.inr rfl) (by decide) (by decide) (by simp [look])] at this
        rw [declsA_end (t := 62 :: X) rfl, show List.dropWhile blk (62 :: X) = 62 :: X from rfl, show spaceOf davS = 1 from by decide, show spaceOf [117, 114, 110, 58, 120] = 3 from by decide] at this
        simpa using this) rfl (by decide) (fun _ => rfl)
    have h2 := runs_both { init [] with stack := ⟨[], [111], 3, []⟩ :: [], env := [([], 3), (c :: t, 1)] ++ [], pcs := flushed [] [] ++ [⟨1, 3, [111], []⟩], txt := [], had := true } c (t ++ 58 :: n) [] (c :: t) n [] 1 hc (fun X => by
        have := written_pre (c :: t) n (47 :: 62 :: X) hp hn (fun x hx => by cases hx; decide)
        simpa using this) (fun X => decls_none 47 (62 :: X) (by decide)) (by
        unfold spOf
        rw [if_neg (by simp)]
        simp [look]) (by show 1 < 16; decide) (fun e => by cases e)
    have h3 := runs_close { init [] with stack := ⟨[], [111], 3, []⟩ :: [], env := [([], 3), (c :: t, 1)] ++ [], pcs := flushed (flushed [] [] ++ [⟨1, 3, [111], []⟩]) [] ++ [⟨1, 1, n, []⟩, ⟨2, 1, n, []⟩], txt := [], had := true } [111] [] [111] ⟨[], [111], 3, []⟩ [] rfl (fun X => written_bare [111] (62 :: X) (by decide) (fun x hx => by cases hx; decide)) rfl rfl
    have hr := (h1.trans h2).trans h3
    have := hr []
    rw [List.append_nil] at this
    unfold docP
    rw [prolog_tag (x := 111) (by decide), Option.bind_some]
    have e : (60 :: 111 :: 32 :: (xmlnsS ++ 58 :: ((c :: t) ++ 61 :: 39 :: (davS ++ 39 :: 32 :: (xmlnsS ++ 61 :: 39 :: ([117, 114, 110, 58, 120] ++ 39 :: 62 :: 60 :: ((c :: t) ++ 58 :: (n ++ 47 :: 62 :: 60 :: 47 :: 111 :: [62])))))))  : Row)
      = (60 :: 111 :: ([] ++ (32 :: (xmlnsS ++ 58 :: ((c :: t) ++ 61 :: 39 :: (davS ++ 39 :: 32 :: (xmlnsS ++ 61 :: 39 :: ([117, 114, 110, 58, 120] ++ [39])))))) ++ [62])) ++ (60 :: c :: (t ++ 58 :: n ++ [] ++ [47, 62])) ++ (60 :: 47 :: ([111] ++ [62])) := by simp
    rw [e]
    show (go ((init []).at _)).bind fin = _
    rw [this, go_nil rfl, Option.bind_some]
    rfl
end Go.Proofs.YtjeagjleolmibaaGreatDoor.Xm
