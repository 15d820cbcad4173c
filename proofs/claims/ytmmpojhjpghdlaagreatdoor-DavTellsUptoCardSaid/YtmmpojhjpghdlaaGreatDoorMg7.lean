import Derived.Test.YtmmpojhjpghdlaaGreatDoorMg3
import Derived.Test.YtmmpojhjpghdlaaGreatDoorMg4
import Derived.Lib.FrozenHead
import Derived.Lib.UnsafeStr
import Derived.BigQuiet
import Derived.Deep.QuietTactic
import Derived.RegionTactic
import Derived.Shelf.Strings.SlTrimAscii
import Derived.Lib.IndexMore
import Derived.Test.YtmmpojhjpghdlaaGreatDoorMg6
import Derived.SizedLaws
import Derived.Test.YtmmpojhjpghdlaaGreatDoorMg5

/-
  PLAIN LAWS OF LAYER xml: what a reader that goes part by part, element in element, must know of the steps ('ans': what the rest is read as).
-/
set_option linter.unusedVariables false
namespace Go.Proofs.YtmmpojhjpghdlaaGreatDoor.Xm

/-! ### what the rest is read as -/
def ans (σ : St) : Option (List Pc) := (go σ).bind fin
theorem ans_some {σ τ : St} (h : step σ = some τ) : ans σ = ans τ := by unfold ans; rw [go_some h]
theorem ans_none {σ : St} (h0 : σ.rest ≠ []) (h : step σ = none) : ans σ = none := by unfold ans; rw [go_none h0 h]; rfl
theorem ans_runs {σ τ : St} {a X : Row} (h : Runs σ a τ) : ans (σ.at (a ++ X)) = ans (τ.at X) := by unfold ans; rw [h X]
theorem ans_over {σ : St} (h : σ.rest = []) (hs : σ.stack ≠ [] ∨ σ.had = false) : ans σ = none := by
  unfold ans
  rw [go_nil h, Option.bind_some]
  unfold fin
  rw [if_neg]
  rintro ⟨h1, h2⟩
  rcases hs with hs | hs
  · exact hs h2
  · rw [hs] at h1; cases h1
theorem ans_done {σ : St} (h : σ.rest = []) (hs : σ.stack = []) (hh : σ.had = true) : ans σ = some σ.pcs := by
  unfold ans
  rw [go_nil h, Option.bind_some]
  unfold fin
  rw [if_pos ⟨hh, hs⟩]
theorem runs_bytes : ∀ (a : Row) (σ : St), σ.stack ≠ [] → (∀ c ∈ a, c ≠ 60 ∧ c ≠ 38) → Runs σ a { σ with txt := σ.txt ++ a }
  | [], σ, _, _ => by simpa using Runs.nil σ
  | c :: a, σ, hs, h => by
    have h1 := runs_byte σ c (h c (by simp)).1 (h c (by simp)).2 hs
    have h2 := runs_bytes a { σ with txt := σ.txt ++ [c] } hs (fun x hx => h x (by simp [hx]))
    have := h1.trans h2
    simpa using this
/-- characters up to the next mark -/
theorem ans_bytes {σ : St} {a X : Row} (hr : σ.rest = a ++ X) (hs : σ.stack ≠ []) (h : ∀ c ∈ a, c ≠ 60 ∧ c ≠ 38) : ans σ = ans { σ with rest := X, txt := σ.txt ++ a } := by
  have := ans_runs (X := X) (runs_bytes a σ hs h)
  rw [← hr] at this
  exact this
/-- .. to the end: nothing -/
theorem ans_bytes_end {σ : St} (hs : σ.stack ≠ []) (h : ∀ c ∈ σ.rest, c ≠ 60 ∧ c ≠ 38) : ans σ = none := by
  rw [ans_bytes (X := []) (by simp) hs h]
  exact ans_over rfl (.inl hs)
theorem runs_blanks : ∀ (a : Row) (σ : St), σ.stack = [] → (∀ c ∈ a, blk c = true) → Runs σ a σ
  | [], σ, _, _ => Runs.nil σ
  | c :: a, σ, hs, h => (runs_blank σ c (h c (by simp)) hs).trans (runs_blanks a σ hs (fun x hx => h x (by simp [hx])))
theorem ans_blanks {σ : St} (hs : σ.stack = []) : ans σ = ans { σ with rest := σ.rest.dropWhile blk } := by
  have hall : ∀ c ∈ σ.rest.takeWhile blk, blk c = true := fun c hc => by
    have := List.all_takeWhile (l := σ.rest) (p := blk)
    exact List.all_eq_true.1 this c hc
  have := ans_runs (X := σ.rest.dropWhile blk) (runs_blanks _ σ hs hall)
  rw [List.takeWhile_append_dropWhile] at this
  exact this
theorem ans_ent {σ : St} {t : Row} (hr : σ.rest = 38 :: t) (hs : σ.stack ≠ []) : ans σ = ((find [59] t).bind fun p => (ent p.1).map fun x => ({ σ with rest := p.2, txt := σ.txt ++ x } : St)).bind ans := by
  have h := step_ent hr hs
  cases hx : (find [59] t).bind fun p => (ent p.1).map fun x => ({ σ with rest := p.2, txt := σ.txt ++ x } : St) with
  | none => rw [hx] at h; exact ans_none (by rw [hr]; simp) h
  | some τ => rw [hx] at h; exact ans_some h
theorem ans_remark {σ : St} {t : Row} (hr : σ.rest = remarkS ++ t) : ans σ = ((remark t).map fun v => ({ σ with rest := v } : St)).bind ans := by
  have h := step_remark (σ := σ) (t := t) hr
  cases hx : (remark t).map fun v => ({ σ with rest := v } : St) with
  | none => rw [hx] at h; exact ans_none (by rw [hr]; simp [remarkS]) h
  | some τ => rw [hx] at h; exact ans_some h
theorem ans_out {σ : St} {c : UInt8} {t : Row} (hr : σ.rest = c :: t) (h1 : c ≠ 60) (hb : blk c = false) (hs : σ.stack = []) : ans σ = none :=
  ans_none (by rw [hr]; simp) (by rw [step_out hr h1 hs, hb]; rfl)
theorem ans_tag {σ : St} {c : UInt8} {t : Row} (hr : σ.rest = 60 :: t) (h : step σ = opens σ t) : ans σ = (opens σ t).bind ans := by
  cases hx : opens σ t with
  | none => rw [hx] at h; exact ans_none (by rw [hr]; simp) h
  | some τ => rw [hx] at h; exact ans_some h
theorem ans_close {σ : St} {t : Row} (hr : σ.rest = 60 :: 47 :: t) : ans σ = (closes σ t).bind ans := by
  have h := step_end hr
  cases hx : closes σ t with
  | none => rw [hx] at h; exact ans_none (by rw [hr]; simp) h
  | some τ => rw [hx] at h; exact ans_some h
/-- within an element -/
theorem step_in {σ : St} {t : Row} (hr : σ.rest = 60 :: t) (hs : σ.stack ≠ []) (h1 : ([47] : Row).isPrefixOf t = false) (h2 : ([33, 45, 45] : Row).isPrefixOf t = false) : step σ = opens σ t := by
  unfold step
  rw [hr]
  simp only
  rw [if_pos trivial]
  split
  · simp [List.isPrefixOf] at h2
  · simp [List.isPrefixOf] at h1
  · rw [if_neg (fun q => hs q.1)]
theorem written_no {c : UInt8} {t : Row} (h : ftB c = false) : written (c :: t) = none := by
  unfold written nameC
  have : nlen (c :: t) = 0 := by show (if ftB c = true then _ else 0) = 0; rw [h]; rfl
  rw [if_pos (.inl this)]; rfl
theorem opens_no {σ : St} {t : Row} (h : written t = none) : opens σ t = none := by
  unfold opens
  split
  · rfl
  · rw [h]; rfl
/-- outside, ahead of the first element -/
theorem step_top {σ : St} {t : Row} (hr : σ.rest = 60 :: t) (hs : σ.stack = []) (hh : σ.had = false) (h2 : ([33, 45, 45] : Row).isPrefixOf t = false) : step σ = opens σ t := by
  unfold step
  rw [hr]
  simp only
  rw [if_pos trivial]
  split
  · simp [List.isPrefixOf] at h2
  · rename_i u
    rw [opens_no (written_no (by decide))]
    unfold closes
    rw [hs]
  · rw [if_neg (fun q => by rw [hh] at q; cases q.2)]
/-- outside, behind the element -/
theorem ans_behind {σ : St} {t : Row} (hr : σ.rest = 60 :: t) (hs : σ.stack = []) (hh : σ.had = true) (h2 : ([33, 45, 45] : Row).isPrefixOf t = false) : ans σ = none := by
  refine ans_none (by rw [hr]; simp) ?_
  unfold step
  rw [hr]
  simp only
  rw [if_pos trivial]
  split
  · simp [List.isPrefixOf] at h2
  · unfold closes; rw [hs]
  · rw [if_pos ⟨hs, hh⟩]

/-! ### names -/
theorem nlen_take (t : Row) : (nlen t = 0 ∧ (t = [] ∨ ∃ c r, t = c :: r ∧ ftB c = false)) ∨ (∃ c r, t = c :: r ∧ ftB c = true ∧ nlen t = (t.takeWhile nxB).length) := by
  cases t with
  | nil => exact .inl ⟨rfl, .inl rfl⟩
  | cons c r =>
    cases hc : ftB c with
    | false => exact .inl ⟨by show (if ftB c = true then _ else 0) = 0; rw [hc]; rfl, .inr ⟨c, r, rfl, hc⟩⟩
    | true =>
      refine .inr ⟨c, r, rfl, hc, ?_⟩
      show (if ftB c = true then (r.takeWhile nxB).length + 1 else 0) = _
      rw [if_pos hc, List.takeWhile_cons, if_pos (ft_nx hc), List.length_cons]
theorem takeWhile_take (p : UInt8 → Bool) (t : Row) : t.take (t.takeWhile p).length = t.takeWhile p := (List.prefix_iff_eq_take.1 (List.takeWhile_prefix p)).symm
theorem takeWhile_drop (p : UInt8 → Bool) (t : Row) : t.drop (t.takeWhile p).length = t.dropWhile p := by
  have e : (t.takeWhile p ++ t.dropWhile p).drop (t.takeWhile p).length = t.dropWhile p := List.drop_left
  rw [List.takeWhile_append_dropWhile] at e
  exact e
/-- the name at the front as a reader cuts it -/
theorem nameC_cut (t : Row) : nameC t = if nameB (t.takeWhile nxB) = true then some (t.takeWhile nxB, t.dropWhile nxB) else none := by
  rcases nlen_take t with ⟨h, h2⟩ | ⟨c, r, rfl, hc, h⟩
  · have e : nameB (t.takeWhile nxB) = false := by
      rcases h2 with rfl | ⟨c, r, rfl, hc⟩
      · rfl
      · rw [List.takeWhile_cons]
        split
        · show (ftB c && _ && _) = false
          rw [hc]; rfl
        · rfl
    rw [e]
    unfold nameC
    rw [if_pos (.inl h)]; rfl
  · have e : (c :: r).takeWhile nxB = c :: r.takeWhile nxB := by rw [List.takeWhile_cons, if_pos (ft_nx hc)]
    have hall : (r.takeWhile nxB).all nxB = true := List.all_takeWhile
    unfold nameC
    rw [h, takeWhile_take, takeWhile_drop]
    by_cases h64 : 64 < ((c :: r).takeWhile nxB).length
    · have e2 : nameB ((c :: r).takeWhile nxB) = false := by
        rw [e] at h64 ⊢
        show (ftB c && (r.takeWhile nxB).all nxB && decide ((r.takeWhile nxB).length < 64)) = false
        rw [List.length_cons] at h64
        rw [show decide ((r.takeWhile nxB).length < 64) = false from decide_eq_false (by omega)]
        simp
      rw [if_pos (.inr h64), e2]; rfl
    · have e2 : nameB ((c :: r).takeWhile nxB) = true := by
        rw [e] at h64 ⊢
        show (ftB c && (r.takeWhile nxB).all nxB && decide ((r.takeWhile nxB).length < 64)) = true
        rw [List.length_cons] at h64
        rw [hc, hall, show decide ((r.takeWhile nxB).length < 64) = true from decide_eq_true (by omega)]; rfl
      rw [if_neg (by rw [e] at h64 ⊢; simp only [List.length_cons] at h64 ⊢; omega), e2]; rfl
theorem nameC_head {l n r : Row} (h : nameC l = some (n, r)) : ∀ x, r.head? = some x → nxB x = false := by
  rw [nameC_cut] at h
  split at h
  · have h := Option.some.inj h
    simp only [Prod.mk.injEq] at h
    obtain ⟨_, rfl⟩ := h
    intro x hx
    cases hd : l.dropWhile nxB with
    | nil => rw [hd] at hx; cases hx
    | cons y z =>
      rw [hd] at hx
      simp at hx
      have := List.head?_dropWhile_not nxB l
      rw [hd] at this
      simp at this
      rw [← hx]; simpa using this
  · cases h
def fullT (p n : Row) : Row := if p = [] then n else p ++ 58 :: n
theorem fullT_pre {p n : Row} (h : p ≠ []) : fullT p n = p ++ 58 :: n := if_neg h
theorem fullT_bare {n : Row} : fullT [] n = n := if_pos rfl
/-- a written name as it stands -/
theorem written_form {t p n r : Row} (h : written t = some (p, n, r)) : t = fullT p n ++ r ∧ nameB n = true ∧ (p = [] ∨ nameB p = true) := by
  unfold written at h
  cases hn : nameC t with
  | none => rw [hn] at h; cases h
  | some q =>
    obtain ⟨a, u⟩ := q
    obtain ⟨e, ha⟩ := nameC_some hn
    rw [hn, Option.bind_some] at h
    simp only at h
    split at h
    · rename_i v
      cases hm : nameC v with
      | none => rw [hm] at h; cases h
      | some q2 =>
        obtain ⟨b, z⟩ := q2
        obtain ⟨e2, hb⟩ := nameC_some hm
        rw [hm] at h
        simp at h
        obtain ⟨rfl, rfl, rfl⟩ := h
        refine ⟨?_, hb, .inr ha⟩
        rw [fullT_pre (nameB_ne ha), e, e2]; simp
    · simp at h
      obtain ⟨rfl, rfl, rfl⟩ := h
      exact ⟨by rw [fullT_bare]; exact e, ha, .inl rfl⟩
theorem written_full {p n r : Row} (hn : nameB n = true) (hp : p = [] ∨ nameB p = true) (hr : ∀ x, r.head? = some x → nxB x = false ∧ x ≠ 58) : written (fullT p n ++ r) = some (p, n, r) := by
  rcases hp with rfl | hp
  · rw [fullT_bare]; exact written_bare n r hn hr
  · rw [fullT_pre (nameB_ne hp)]
    have := written_pre p n r hp hn (fun x hx => (hr x hx).1)
    simpa using this
theorem blk_nx {c : UInt8} (h : blk c = true) : nxB c = false ∧ c ≠ 58 := by
  unfold blk at h
  simp only [Bool.or_eq_true, beq_iff_eq] at h
  rcases h with ((rfl | rfl) | rfl) | rfl <;> decide
theorem end_head {x v : Row} (h : x.dropWhile blk = 62 :: v) : ∀ y, x.head? = some y → nxB y = false ∧ y ≠ 58 := by
  intro y hy
  cases x with
  | nil => cases hy
  | cons c r =>
    simp at hy; subst hy
    rw [List.dropWhile_cons] at h
    split at h
    · exact blk_nx (by assumption)
    · injection h with h1 h2
      subst h1; decide

/-! ### ends -/
theorem closes_yes {σ : St} {e : El} {st : List El} {x v : Row} (hs : σ.stack = e :: st) (hn : nameB e.name = true) (hp : e.pre = [] ∨ nameB e.pre = true) (hx : x.dropWhile blk = 62 :: v) :
    closes σ (fullT e.pre e.name ++ x) = some { σ with rest := v, stack := st, env := e.env, pcs := flushed σ.pcs σ.txt ++ [⟨2, e.space, e.name, []⟩], txt := [] } := by
  unfold closes
  rw [hs]
  simp only
  rw [written_full hn hp (end_head hx), Option.bind_some]
  simp only
  rw [hx]
  simp only
  rw [if_pos (by simp)]
theorem closes_some {σ τ : St} {e : El} {st : List El} {t : Row} (hs : σ.stack = e :: st) (h : closes σ t = some τ) : ∃ x v, t = fullT e.pre e.name ++ x ∧ x.dropWhile blk = 62 :: v := by
  unfold closes at h
  rw [hs] at h
  simp only at h
  cases hw : written t with
  | none => rw [hw] at h; cases h
  | some q =>
    obtain ⟨p, n, r⟩ := q
    rw [hw, Option.bind_some] at h
    simp only at h
    split at h
    · rename_i v hv
      split at h
      · rename_i hc
        obtain ⟨e1, _⟩ := written_form hw
        exact ⟨r, v, by rw [← hc.1, ← hc.2]; exact e1, hv⟩
      · cases h
    · cases h
theorem closes_no {σ : St} {e : El} {st : List El} {t : Row} (hs : σ.stack = e :: st) (h : ∀ x, t = fullT e.pre e.name ++ x → (x.dropWhile blk).head? ≠ some 62) : closes σ t = none := by
  cases hc : closes σ t with
  | none => rfl
  | some τ =>
    obtain ⟨x, v, h1, h2⟩ := closes_some hs hc
    exact absurd (by rw [h2]; rfl) (h x h1)

/-! ### declarations -/
theorem declsA_stop {t : Row} {own : Env} (h : t.dropWhile blk = t) : declsA t own = some (t, own) := by
  have hm : more t = false := by
    cases t with
    | nil => rfl
    | cons c r =>
      show (blk c && _) = false
      rw [List.dropWhile_cons] at h
      split at h
      · rename_i hc
        have := congrArg List.length h
        have := dropWhile_len blk r
        simp at *
        omega
      · rename_i hc
        rw [show blk c = false by simpa using hc]; rfl
  rw [declsA_end hm, h]
theorem xmlns_name : nameB xmlnsS = true := by decide
theorem declares_xmlns {a b pre : Row} (h : declares a b = some pre) : (a = [] ∧ b = xmlnsS ∧ pre = []) ∨ (a = xmlnsS ∧ b = pre) := by
  unfold declares at h
  split at h
  · rename_i hc; simp at h; exact .inl ⟨hc.1, hc.2, h⟩
  · split at h
    · rename_i hc; simp at h; exact .inr ⟨hc, h⟩
    · cases h
theorem decl_front {t pre r : Row} {s : Int} (h : decl t = some (pre, s, r)) : xmlnsS.isPrefixOf t = true := by
  unfold decl at h
  cases hw : written t with
  | none => rw [hw] at h; cases h
  | some w =>
    obtain ⟨a, b, u⟩ := w
    obtain ⟨e, hn, hp⟩ := written_form hw
    rw [hw, Option.bind_some] at h
    cases hd : declares a b with
    | none => simp only [hd] at h; cases h
    | some q =>
      rcases declares_xmlns hd with ⟨h1, h2, _⟩ | ⟨h1, h2⟩
      · rw [h1, h2, fullT_bare] at e
        exact List.isPrefixOf_iff_prefix.2 ⟨u, e.symm⟩
      · rw [h1, fullT_pre (by decide), List.append_assoc] at e
        exact List.isPrefixOf_iff_prefix.2 ⟨_, e.symm⟩
/-- no declaration stands there -/
theorem declsA_other {t : Row} {own : Env} (h : xmlnsS.isPrefixOf (t.dropWhile blk) = false) : declsA t own = some (t.dropWhile blk, own) ∨ (declsA t own = none ∧ (t.dropWhile blk).head? ≠ some 47 ∧ (t.dropWhile blk).head? ≠ some 62) := by
  cases hm : more t with
  | false => exact .inl (declsA_end hm)
  | true =>
    refine .inr ⟨?_, ?_⟩
    · rw [declsA_more hm]
      cases hd : decl (t.dropWhile blk) with
      | none => rfl
      | some d =>
        obtain ⟨pre, s, r⟩ := d
        rw [decl_front hd] at h; cases h
    · cases t with
      | nil => cases hm
      | cons c r =>
        have hm' : (blk c && (match r.dropWhile blk with
          | 47 :: _ => false
          | 62 :: _ => false
          | _ => true)) = true := hm
        simp only [Bool.and_eq_true] at hm'
        have e : (c :: r).dropWhile blk = r.dropWhile blk := by rw [List.dropWhile_cons, if_pos hm'.1]
        rw [e]
        constructor
        · intro hq
          cases hx : r.dropWhile blk with
          | nil => rw [hx] at hq; cases hq
          | cons y z => rw [hx] at hq; simp at hq; rw [hx, hq] at hm'; cases hm'.2
        · intro hq
          cases hx : r.dropWhile blk with
          | nil => rw [hx] at hq; cases hq
          | cons y z => rw [hx] at hq; simp at hq; rw [hx, hq] at hm'; cases hm'.2
/-- one stands there -/
theorem declsA_here {t r : Row} {own : Env} (hne : t.dropWhile blk ≠ t) (h : t.dropWhile blk = xmlnsS ++ r) : declsA t own = (decl (xmlnsS ++ r)).bind fun d => if (look d.1 own).isSome = true then none else declsA d.2.2 ((d.1, d.2.1) :: own) := by
  have hm : more t = true := by
    cases t with
    | nil => exact absurd rfl hne
    | cons c u =>
      show (blk c && _) = true
      rw [List.dropWhile_cons] at h hne
      split at h
      · rename_i hc
        rw [hc, h]; rfl
      · rename_i hc
        rw [if_neg hc] at hne
        exact absurd rfl hne
  rw [declsA_more hm, h]
theorem decl_named {n u : Row} (hn : nameB n = true) (hu : ∀ x, u.head? = some x → nxB x = false) : decl (xmlnsS ++ 58 :: (n ++ u)) = (quoted u).map fun p => (n, spaceOf p.1, p.2) := by
  unfold decl
  rw [written_pre xmlnsS n u xmlns_name hn hu, Option.bind_some]
  show ((declares xmlnsS n).bind fun pre => (quoted u).map _) = _
  unfold declares
  rw [if_neg (fun e => by cases e.1), if_pos rfl, Option.bind_some]
theorem decl_noname {r : Row} (h : nameC r = none) : decl (xmlnsS ++ 58 :: r) = none := by
  have : written (xmlnsS ++ 58 :: r) = none := by
    unfold written
    rw [nameC_front xmlnsS (58 :: r) xmlns_name (fun x hx => by simp at hx; rw [← hx]; exact nx_colon), Option.bind_some]
    show (nameC r).map _ = none
    rw [h]; rfl
  unfold decl
  rw [this]; rfl
theorem quoted_no {r : Row} (h : r.head? ≠ some 61) : quoted r = none := by
  unfold quoted
  split
  · exact absurd rfl h
  · rfl
theorem decl_plain {r : Row} (h : r.head? ≠ some 58) : decl (xmlnsS ++ r) = (quoted r).map fun p => ([], spaceOf p.1, p.2) := by
  by_cases h61 : r.head? = some 61
  · have hr : ∀ x, r.head? = some x → nxB x = false ∧ x ≠ 58 := fun x hx => by
      rw [h61] at hx; simp at hx; rw [← hx]; decide
    unfold decl
    rw [written_bare xmlnsS r xmlns_name hr, Option.bind_some]
    show ((declares [] xmlnsS).bind fun pre => (quoted r).map _) = _
    unfold declares
    rw [if_pos ⟨rfl, rfl⟩, Option.bind_some]
  · rw [quoted_no h61]
    show _ = none
    cases hd : decl (xmlnsS ++ r) with
    | none => rfl
    | some d =>
      exfalso
      obtain ⟨pre, s, z⟩ := d
      unfold decl at hd
      cases hw : written (xmlnsS ++ r) with
      | none => rw [hw] at hd; cases hd
      | some w =>
        obtain ⟨a, b, u⟩ := w
        obtain ⟨e, hn, hp⟩ := written_form hw
        rw [hw, Option.bind_some] at hd
        cases hc : declares a b with
        | none => simp only [hc] at hd; cases hd
        | some q =>
          rcases declares_xmlns hc with ⟨h1, h2, _⟩ | ⟨h1, h2⟩
          · rw [h1, h2, fullT_bare] at e
            have e := List.append_cancel_left e
            simp only [hc, Option.bind_some] at hd
            rw [← e, quoted_no h61] at hd
            cases hd
          · rw [h1, fullT_pre (by decide), List.append_assoc] at e
            have e := List.append_cancel_left e
            rw [e] at h
            exact h rfl
/-- how a value stands -/
theorem quoted_is {q : UInt8} {u : Row} (hq : q = 34 ∨ q = 39) : quoted (61 :: q :: u) = (find [q] u).bind fun p => if (60 : UInt8) ∈ p.1 then none else some p := if_pos hq
theorem quoted_sign {u : Row} (h1 : u.head? ≠ some 34) (h2 : u.head? ≠ some 39) : quoted (61 :: u) = none := by
  cases u with
  | nil => rfl
  | cons q v =>
    show (if q = 34 ∨ q = 39 then _ else none) = none
    rw [if_neg]
    rintro (rfl | rfl)
    · exact h1 rfl
    · exact h2 rfl

/-! ### beginnings -/
theorem opens_deep {σ : St} {t : Row} (h : 16 ≤ σ.stack.length) : opens σ t = none := if_pos h
theorem opens_at {σ : St} {t p n u : Row} (h : σ.stack.length < 16) (hw : written t = some (p, n, u)) : opens σ t = (declsA u []).bind fun d => (spOf p (d.2 ++ σ.env)).bind fun sp => match d.1 with
  | 47 :: 62 :: v => some { σ with rest := v, pcs := flushed σ.pcs σ.txt ++ [⟨1, sp, n, []⟩, ⟨2, sp, n, []⟩], txt := [], had := true }
  | 62 :: v => some { σ with rest := v, stack := ⟨p, n, sp, σ.env⟩ :: σ.stack, env := d.2 ++ σ.env, pcs := flushed σ.pcs σ.txt ++ [⟨1, sp, n, []⟩], txt := [], had := true }
  | _ => none := by
  unfold opens
  rw [if_neg (by omega), hw]; rfl
theorem opens_both {σ : St} {t p n u v : Row} {own : Env} {sp : Int} (h : σ.stack.length < 16) (hw : written t = some (p, n, u)) (hd : declsA u [] = some (47 :: 62 :: v, own)) (hs : spOf p (own ++ σ.env) = some sp) :
    opens σ t = some { σ with rest := v, pcs := flushed σ.pcs σ.txt ++ [⟨1, sp, n, []⟩, ⟨2, sp, n, []⟩], txt := [], had := true } := by
  rw [opens_at h hw, hd, Option.bind_some]
  simp only
  rw [hs]; rfl
theorem opens_one {σ : St} {t p n u v : Row} {own : Env} {sp : Int} (h : σ.stack.length < 16) (hw : written t = some (p, n, u)) (hd : declsA u [] = some (62 :: v, own)) (hs : spOf p (own ++ σ.env) = some sp) :
    opens σ t = some { σ with rest := v, stack := ⟨p, n, sp, σ.env⟩ :: σ.stack, env := own ++ σ.env, pcs := flushed σ.pcs σ.txt ++ [⟨1, sp, n, []⟩], txt := [], had := true } := by
  rw [opens_at h hw, hd, Option.bind_some]
  simp only
  rw [hs]; rfl
theorem opens_nodecl {σ : St} {t p n u : Row} (hw : written t = some (p, n, u)) (hd : declsA u [] = none) : opens σ t = none := by
  unfold opens
  split
  · rfl
  · rw [hw, Option.bind_some]; simp only; rw [hd]; rfl
theorem opens_nospace {σ : St} {t p n u x : Row} {own : Env} (hw : written t = some (p, n, u)) (hd : declsA u [] = some (x, own)) (hs : spOf p (own ++ σ.env) = none) : opens σ t = none := by
  unfold opens
  split
  · rfl
  · rw [hw, Option.bind_some]; simp only; rw [hd, Option.bind_some]; simp only; rw [hs]; rfl
theorem opens_noend {σ : St} {t p n u x : Row} {own : Env} (hw : written t = some (p, n, u)) (hd : declsA u [] = some (x, own)) (h1 : ([47, 62] : Row).isPrefixOf x = false) (h2 : x.head? ≠ some 62) : opens σ t = none := by
  unfold opens
  split
  · rfl
  · rw [hw, Option.bind_some]; simp only; rw [hd, Option.bind_some]; simp only
    cases spOf p (own ++ σ.env) with
    | none => rfl
    | some sp =>
      rw [Option.bind_some]
      split
      · simp [List.isPrefixOf] at h1
      · exact absurd rfl h2
      · rfl
theorem look_append (p : Row) : ∀ (a b : Env), look p (a ++ b) = (match look p a with
  | some s => some s
  | none => look p b)
  | [], _ => rfl
  | d :: a, b => by
    show (if d.1 = p then some d.2 else look p (a ++ b)) = _
    by_cases h : d.1 = p
    · rw [if_pos h]
      have : look p (d :: a) = some d.2 := if_pos h
      rw [this]
    · rw [if_neg h, look_append p a b]
      have : look p (d :: a) = look p a := if_neg h
      rw [this]
theorem pre_split (p t : Row) : (p.isPrefixOf t = true ∧ ∃ r, t = p ++ r) ∨ p.isPrefixOf t = false := by
  cases h : p.isPrefixOf t with
  | false => exact .inr rfl
  | true =>
    obtain ⟨r, hr⟩ := List.isPrefixOf_iff_prefix.1 h
    exact .inl ⟨rfl, r, hr.symm⟩
end Go.Proofs.YtmmpojhjpghdlaaGreatDoor.Xm

/-
  THE PROGRAM's READER OF LAYER xml IN MEMORY ('Rd'): its block, the bytes and the pieces of its own, what its calls leave ('KeptR'); strings.Builder's calls at its field.
-/
set_option linter.unusedVariables false
namespace Go.Proofs.YtmmpojhjpghdlaaGreatDoor.Xm
open Go.Lib Go.RowKit

/-! ### what is left -/
/-- a block that the reader's calls write -/
def frail (o : Obj) : Prop := ∃ cs t fr, o = .cells cs t fr ∧ (t = 5 ∨ t = 96)
def KeptR (w w' : World) : Prop := w.heap.size ≤ w'.heap.size ∧ ∀ (k : Nat) (o : Obj), w.heap[k]? = some o → ¬ frail o → w'.heap[k]? = some o
theorem KeptR.refl (w : World) : KeptR w w := ⟨Nat.le_refl _, fun _ _ h _ => h⟩
theorem KeptR.trans {a b c : World} (h : KeptR a b) (k : KeptR b c) : KeptR a c := ⟨Nat.le_trans h.1 k.1, fun i o hi hf => k.2 i o (h.2 i o hi hf) hf⟩
theorem KeptR.of_below {w w' : World} (h : Below w.heap.size w w') : KeptR w w' := ⟨h.size, fun i o hi _ => (h.block i (Array.getElem?_eq_some_iff.1 hi).1).trans hi⟩
theorem KeptR.setCell {w : World} {b : Nat} {cs : Array Value} {fr : Nat × Nat} (hb : w.heap[b]? = some (.cells cs 96 fr)) (o : Nat) (u : Value) : KeptR w (w.setCell ⟨b, o, none⟩ u) := ⟨by simp [World.setCell], fun i ob hi hf => by
  rw [Below.heap_setCell w ⟨b, o, none⟩ u i (fun e => by
    have e : i = b := e
    subst e
    rw [hb] at hi
    injection hi with hi
    exact hf ⟨cs, _, fr, hi.symm, .inr rfl⟩)]
  exact hi⟩
theorem KeptR.grownB {w w' : World} {B : Nat} {size n : Nat} {v : Value} {xs : List Value} (h : w.ownsRowF B 5 size v n xs) (hg : w.grownBy w' v.ownBlock) : KeptR w w' := ⟨hg.size, fun i o hi hf => by
  rw [hg.block i (Array.getElem?_eq_some_iff.1 hi).1 (fun e => by
    rcases h.2 with ⟨hv, _⟩ | ⟨g, cap, cur, fz, hv, _, hh, _⟩
    · rw [hv] at e; cases e
    · rw [hv] at e
      have e : i = g := by simpa [Value.ownBlock] using e
      subst e
      rw [hi] at hh
      injection hh with hh
      exact hf ⟨cur, _, fz, hh, .inl rfl⟩)]
  exact hi⟩
theorem KeptR.freeze {w : World} {g : Nat} {cs : Array Value} {fr : Nat × Nat} (hb : w.heap[g]? = some (.cells cs 5 fr)) (n : Nat) : KeptR w (w.freeze ⟨g, 0, none⟩ n) := ⟨by unfold World.freeze; split <;> simp, fun i o hi hf => by
  unfold World.freeze
  split
  · exact hi
  · have hne : g ≠ i := fun e => by
      subst e
      rw [hb] at hi
      injection hi with hi
      exact hf ⟨cs, _, fr, hi.symm, .inl rfl⟩
    simp only [Array.getElem?_modify]
    rw [if_neg hne]
    exact hi⟩

/-! ### the reader -/
theorem ownsRowF_kept {w w' : World} {B : Nat} {e : TypeId} {size : Nat} {v : Value} {n : Nat} {xs : List Value} (h : w.ownsRowF B e size v n xs) (hb : ∀ i o, w.heap[i]? = some o → v.ownBlock = some i → w'.heap[i]? = some o) : w'.ownsRowF B e size v n xs := by
  refine ⟨h.1, ?_⟩
  rcases h.2 with h | ⟨g, cap, cur, fz, e1, e2, e3, e4⟩
  · exact .inl h
  · exact .inr ⟨g, cap, cur, fz, e1, e2, hb g _ e3 (by rw [e1]; rfl), e4⟩
theorem psOwn_kept {w w' : World} {B : Nat} {v : Value} {ps : List Pc} (h : PsOwn B v ps w) (hb : ∀ i o, w.heap[i]? = some o → v.ownBlock = some i → w'.heap[i]? = some o) : PsOwn B v ps w' := by
  refine ⟨h.1, ?_⟩
  rcases h.2 with h | ⟨g, cap, cur, e1, e2, e3, e4⟩
  · exact .inl h
  · exact .inr ⟨g, cap, cur, e1, e2, hb g _ e3 (by rw [e1]; rfl), e4⟩
theorem rowB_type {w : World} {B : Nat} {v : Value} {n : Nat} {xs : List Value} {size : Nat} (h : w.ownsRowF B 5 size v n xs) {i : Nat} (hi : v.ownBlock = some i) : ∃ cs fr, w.heap[i]? = some (.cells cs 5 fr) := by
  rcases h.2 with ⟨hv, _⟩ | ⟨g, cap, cur, fz, hv, _, hh, _⟩
  · rw [hv] at hi; cases hi
  · rw [hv] at hi
    have e : g = i := by simpa [Value.ownBlock] using hi
    exact ⟨cur, fz, e ▸ hh⟩
theorem rowP_type {w : World} {B : Nat} {v : Value} {ps : List Pc} (h : PsOwn B v ps w) {i : Nat} (hi : v.ownBlock = some i) : ∃ cs fr, w.heap[i]? = some (.cells cs 75 fr) := by
  rcases h.2 with ⟨hv, _⟩ | ⟨g, cap, cur, hv, _, hh, _⟩
  · rw [hv] at hi; cases hi
  · rw [hv] at hi
    have e : g = i := by simpa [Value.ownBlock] using hi
    exact ⟨cur, (0, 0), e ▸ hh⟩
theorem types_ne : (5 : TypeId) ≠ 75 ∧ (5 : TypeId) ≠ 96 ∧ (75 : TypeId) ≠ 96 := by decide
theorem cells_type {w : World} {i : Nat} {cs cs' : Array Value} {t t' : TypeId} {fr fr' : Nat × Nat} (h : w.heap[i]? = some (.cells cs t fr)) (h' : w.heap[i]? = some (.cells cs' t' fr')) : t = t' := by
  rw [h] at h'
  injection h' with h'
  injection h' with _ h' _

/-- the reader in block b: what isn't read yet, the characters, the pieces -/
structure RdV (B b : Nat) (r : ByteArray) (p v : Value) (l : Row) (q : Value) (ps : List Pc) (w : World) : Prop where
  hB : B ≤ b
  at0 : w.heap[b]? = some (.cells #[.string r, p, v, q] 96 (0, 0))
  ptr : p = .pointer none ∨ p = .pointer (some ⟨b, 1, none⟩)
  row : w.ownsRowF B 5 1 v l.length (byteCells l)
  nil : l = [] → v = .slice none 0 0
  pcs : PsOwn B q ps w
/-- pieces, and the slice that holds them -/
abbrev Pq := List Pc × Value
def Rd (B b : Nat) (r : ByteArray) (l : Row) (ps : Pq) (w : World) : Prop := ∃ p v, RdV B b r p v l ps.2 ps.1 w
theorem RdV.lt {B b : Nat} {r : ByteArray} {p v q : Value} {l : Row} {ps : List Pc} {w : World} (h : RdV B b r p v l q ps w) : b < w.heap.size := (Array.getElem?_eq_some_iff.1 h.at0).1
theorem RdV.kept {B b : Nat} {r : ByteArray} {p v q : Value} {l : Row} {ps : List Pc} {w w' : World} (h : RdV B b r p v l q ps w) (hb : Below w.heap.size w w') : RdV B b r p v l q ps w' :=
  have hk : ∀ (i : Nat) (o : Obj), w.heap[i]? = some o → w'.heap[i]? = some o := fun i o hi => (hb.block i (Array.getElem?_eq_some_iff.1 hi).1).trans hi
  ⟨h.hB, hk _ _ h.at0, h.ptr, ownsRowF_kept h.row (fun i o hi _ => hk i o hi), h.nil, psOwn_kept h.pcs (fun i o hi _ => hk i o hi)⟩
theorem Rd.kept {B b : Nat} {r : ByteArray} {l : Row} {ps : Pq} {w w' : World} (h : Rd B b r l ps w) (hb : Below w.heap.size w w') : Rd B b r l ps w' := by
  obtain ⟨p, v, h⟩ := h; exact ⟨p, v, h.kept hb⟩
theorem Rd.lt {B b : Nat} {r : ByteArray} {l : Row} {ps : Pq} {w : World} (h : Rd B b r l ps w) : B ≤ b ∧ b < w.heap.size := by
  obtain ⟨p, v, h⟩ := h; exact ⟨h.hB, h.lt⟩
/-- a store into one of its cells -/
theorem RdV.set {B b : Nat} {r r' : ByteArray} {p p' v v' q q' u : Value} {l' : Row} {ps' : List Pc} {w : World} (o : Nat) (h : w.heap[b]? = some (.cells #[.string r, p, v, q] 96 (0, 0))) (hB : B ≤ b)
    (hset : (#[.string r, p, v, q] : Array Value).setIfInBounds o u = #[.string r', p', v', q']) (hp : p' = .pointer none ∨ p' = .pointer (some ⟨b, 1, none⟩)) (hv : w.ownsRowF B 5 1 v' l'.length (byteCells l')) (hn : l' = [] → v' = .slice none 0 0) (hq : PsOwn B q' ps' w) :
    RdV B b r' p' v' l' q' ps' (w.setCell ⟨b, o, none⟩ u) := by
  have hk : ∀ (i : Nat), i ≠ b → (w.setCell ⟨b, o, none⟩ u).heap[i]? = w.heap[i]? := fun i hi => Below.heap_setCell w ⟨b, o, none⟩ u i hi
  refine ⟨hB, ?_, hp, ownsRowF_kept hv (fun i ob hi ho => ?_), hn, psOwn_kept hq (fun i ob hi ho => ?_)⟩
  · simp only [World.setCell, Array.getElem?_modify]
    rw [if_pos trivial, h]
    simp only [Option.map_some]
    rw [hset]
    rfl
  · rw [hk i (fun e => ?_)]; exact hi
    subst e
    obtain ⟨cs, fr, h1⟩ := rowB_type hv ho
    exact types_ne.2.1 (cells_type h1 h)
  · rw [hk i (fun e => ?_)]; exact hi
    subst e
    obtain ⟨cs, fr, h1⟩ := rowP_type hq ho
    exact types_ne.2.2 (cells_type h1 h)
theorem RdV.cell {B b : Nat} {r : ByteArray} {p v q : Value} {l : Row} {ps : List Pc} {w : World} (h : RdV B b r p v l q ps w) : w.cell? ⟨b, 0, none⟩ = some (.string r) ∧ w.cell? ⟨b, 1, none⟩ = some p ∧ w.cell? ⟨b, 2, none⟩ = some v ∧ w.cell? ⟨b, 3, none⟩ = some q := by
  refine ⟨?_, ?_, ?_, ?_⟩ <;> (rw [Lib.cell_of_heap h.at0]; rfl)
theorem RdV.free {B b : Nat} {r : ByteArray} {p v q : Value} {l : Row} {ps : List Pc} {w : World} (h : RdV B b r p v l q ps w) (o : Nat) : w.frozen? ⟨b, o, none⟩ = false := Lib.frozen_of_heap h.at0 o
theorem RdV.rest {B b : Nat} {r : ByteArray} {p v q : Value} {l : Row} {ps : List Pc} {w : World} (h : RdV B b r p v l q ps w) (r' : ByteArray) : RdV B b r' p v l q ps (w.setCell ⟨b, 0, none⟩ (.string r')) :=
  RdV.set 0 h.at0 h.hB rfl h.ptr h.row h.nil h.pcs
theorem RdV.form {B b : Nat} {r : ByteArray} {p v q : Value} {l : Row} {ps : List Pc} {w : World} (h : RdV B b r p v l q ps w) : (∃ A c, v = .slice A l.length c) ∧ ∃ A c, q = .slice A ps.length c := by
  refine ⟨?_, ownsRow_form h.pcs⟩
  rcases h.row.2 with ⟨hv, hn⟩ | ⟨g, cap, cur, fz, e1, _⟩
  · exact ⟨none, 0, by rw [hv, hn]⟩
  · exact ⟨_, _, e1⟩

/-! ### the builder in it -/
theorem sizeB : (Tryz.prog.info? 94).map (·.size) = some 2 := by kernel_rfl
theorem liesR : liesAt Tryz.prog Tryz.prog.depth 96 (4 / Tryz.prog.cellsOf 96) 1 94 1 = true := by kernel_rfl
theorem cells8 : Tryz.prog.cellsOf 5 = 1 := by kernel_rfl
set_option maxHeartbeats 1000000 in
set_option maxRecDepth 100000 in
theorem rdCheck_new (b : Nat) (w : World) (h0 : w.cell? ⟨b, 1, none⟩ = some (.pointer none)) (hsh : w.shape? b = some (96, 4)) (hfz : w.frozen? ⟨b, 1, none⟩ = false) :
    Calls Tryz.prog 109 #[.pointer (some ⟨b, 1, none⟩)] w fun e w' => e = .returned (.tuple #[]) ∧ w' = w.setCell ⟨b, 1, none⟩ (.pointer (some ⟨b, 1, none⟩)) := by
  obtain ⟨j, hj, hjs⟩ := Option.map_eq_some_iff.1 sizeB
  go_enter Tryz.func109, Tryz.ntmps109
  go_wp2
  rw [Lib.run_to_unsafe w ⟨b, 1, none⟩ Tryz.underlying92 Tryz.underlying170 hj (by rw [hjs]; decide) hsh (show 1 < 4 by decide)]
  simp only [Result.andThen]
  rw [Oper.upon_value]
  go_wp2
  rw [run_callFunc_extern Tryz.func126 (by kernel_rfl) (by kernel_rfl) (by kernel_rfl) (e := Extern.AbiNoEscape.same) (by kernel_rfl)]
  rw [Lib.run_noEscape]
  simp only [Result.andThen]
  rw [Oper.upon_value]
  go_wp2
  rw [Lib.run_from_unsafe w ⟨b, 1, none⟩ Tryz.underlying170 Tryz.underlying92 hj hsh liesR]
  simp only [Result.andThen]
  rw [Oper.upon_value]
  go_wp2
  go_end0
  exact ⟨rfl, rfl⟩
set_option maxHeartbeats 1000000 in
set_option maxRecDepth 100000 in
theorem rdCheck_old (b : Nat) (w : World) (h0 : w.cell? ⟨b, 1, none⟩ = some (.pointer (some ⟨b, 1, none⟩))) :
    Calls Tryz.prog 109 #[.pointer (some ⟨b, 1, none⟩)] w fun e w' => e = .returned (.tuple #[]) ∧ w' = w := by
  obtain ⟨j, hj, hjs⟩ := Option.map_eq_some_iff.1 sizeB
  go_enter Tryz.func109, Tryz.ntmps109
  go_wp2
  rw [Lib.run_neq_ptr_same w _ Tryz.underlying92 hj]
  go_wp2
  go_end0
  exact ⟨rfl, rfl⟩
theorem rdCheck_any {B b : Nat} {r : ByteArray} {p v q : Value} {l : Row} {ps : List Pc} {w : World} (h : RdV B b r p v l q ps w) :
    Calls Tryz.prog 109 #[.pointer (some ⟨b, 1, none⟩)] w fun e w' => e = .returned (.tuple #[]) ∧ RdV B b r (.pointer (some ⟨b, 1, none⟩)) v l q ps w' ∧ Below B w w' ∧ KeptR w w' := by
  rcases h.ptr with hp | hp
  · subst hp
    refine (rdCheck_new b w h.cell.2.1 (by simp [World.shape?, h.at0]) (h.free 1)).mono ?_
    rintro e w' ⟨rfl, rfl⟩
    exact ⟨rfl, RdV.set 1 h.at0 h.hB rfl (.inr rfl) h.row h.nil h.pcs, (Below.refl B w).setCell (p := ⟨b, 1, none⟩) h.hB _, KeptR.setCell h.at0 1 _⟩
  · subst hp
    refine (rdCheck_old b w h.cell.2.1).mono ?_
    rintro e w' ⟨rfl, rfl⟩
    exact ⟨rfl, h, Below.refl B _, KeptR.refl _⟩
set_option maxHeartbeats 1000000 in
set_option maxRecDepth 100000 in
theorem rdWrite_any {B b : Nat} {r : ByteArray} {p v q : Value} {l : Row} {ps : List Pc} {w : World} (h : RdV B b r p v l q ps w) (s : ByteArray) (hlen : l.length + s.size ≤ 140737488355328) (hBw : B ≤ w.heap.size) :
    Calls Tryz.prog 84 #[.pointer (some ⟨b, 1, none⟩), .string s] w fun e w' => e = .returned (.tuple #[.int .i64 s.size, .nilIface]) ∧ Rd B b r (l ++ s.data.toList) (ps, q) w' ∧ Below B w w' ∧ KeptR w w' := by
  obtain ⟨i0, hi, hz0, hz1, hz2⟩ := info_parts infoU8
  rw [← Lib.byteCells_length l] at hlen
  go_enter Tryz.func84, Tryz.ntmps84
  go_wp2_with (go_at_call 109; refine (rdCheck_any h).mono ?_)
  rintro e w1 ⟨rfl, h1, hb1, ht1⟩
  have hown := h1.row
  obtain ⟨c0, c1, c2, c3⟩ := h1.cell
  rw [← Lib.byteCells_length l] at hown
  go_wp2_with (at_builtin; refine Lib.wpList_append_own_stringF _ rfl _ _ 88 9 rfl B 5 i0 Tryz.underlying88 Tryz.underlying9 hi hz0 hz1 hz2 _ _ _ rfl hown s rfl ?c3 ?c4 ?c5 ?_)
  case c3 => unfold maxLen; omega
  case c4 => omega
  case c5 => have := hb1.size; omega
  intro v' w2 hown' hgrow hnil
  have hgk : ∀ (i : Nat) (o : Obj), w1.heap[i]? = some o → v.ownBlock ≠ some i → w2.heap[i]? = some o := fun i o hi' hne => (hgrow.block i (Array.getElem?_eq_some_iff.1 hi').1 (fun e => hne e.symm)).trans hi'
  have hb2 : w2.heap[b]? = some (.cells #[.string r, .pointer (some ⟨b, 1, none⟩), v, q] 96 (0, 0)) :=
    hgk b _ h1.at0 (fun e => by
      obtain ⟨cs, fr, hx⟩ := rowB_type hown e
      exact types_ne.2.1 (cells_type hx h1.at0))
  have hq2 : PsOwn B q ps w2 := psOwn_kept h1.pcs (fun i o hi' ho => hgk i o hi' (fun e => by
      obtain ⟨cs, fr, hx⟩ := rowB_type hown e
      obtain ⟨cs', fr', hy⟩ := rowP_type h1.pcs ho
      exact types_ne.1 (cells_type hx hy)))
  have d0 : w2.cell? ⟨b, 1, none⟩ = some (.pointer (some ⟨b, 1, none⟩)) := by rw [Lib.cell_of_heap hb2]; rfl
  have d1 : w2.cell? ⟨b, 2, none⟩ = some v := by rw [Lib.cell_of_heap hb2]; rfl
  have f1 : w2.frozen? ⟨b, 2, none⟩ = false := Lib.frozen_of_heap hb2 2
  have e : byteCells (l ++ s.data.toList) = byteCells l ++ strCells s := by rw [byteCells_append]; rfl
  have hrow2 : w2.ownsRowF B 5 1 v' (l ++ s.data.toList).length (byteCells (l ++ s.data.toList)) := by
    rw [e, ← Lib.byteCells_length (l ++ s.data.toList), e]
    simpa [Lib.strCells_length] using hown'
  have hnil2 : l ++ s.data.toList = [] → v' = .slice none 0 0 := fun q => by
    have q := List.append_eq_nil_iff.1 q
    refine hnil.2 ⟨h1.nil q.1, ?_⟩
    exact ByteArray.ext (Array.toList_inj.1 (by rw [q.2]; rfl))
  have hfin : Hid (RdV B b r (.pointer (some ⟨b, 1, none⟩)) v' (l ++ s.data.toList) q ps (w2.setCell ⟨b, 2, none⟩ v')) := Lib.hid (RdV.set 2 hb2 h1.hB rfl (.inr rfl) hrow2 hnil2 hq2)
  have hbl : Hid (Below B w (w2.setCell ⟨b, 2, none⟩ v')) := Lib.hid ((hb1.grown hgrow (by have := hb1.size; omega) (fun k hk => (hown.lt k hk).1)).setCell (p := ⟨b, 2, none⟩) h1.hB _)
  have hkp : Hid (KeptR w (w2.setCell ⟨b, 2, none⟩ v')) := Lib.hid (ht1.trans ((KeptR.grownB hown hgrow).trans (KeptR.setCell hb2 2 _)))
  obtain ⟨ao, n', cap, rfl⟩ : ∃ ao n' cap, v' = .slice ao n' cap := by
    rcases hown'.2 with ⟨hv, _⟩ | ⟨g, cap, cur, fz, hv, _⟩
    · exact ⟨_, _, _, hv⟩
    · exact ⟨_, _, _, hv⟩
  clear hq2 hb2 hown' hrow2 hnil2 hnil hgk hgrow hown h1 e ht1 hb1
  go_wp2
  go_ret2
  exact ⟨rfl, ⟨_, _, hfin.out⟩, hbl.out, hkp.out⟩
end Go.Proofs.YtmmpojhjpghdlaaGreatDoor.Xm

/-
  THE LIBRARY's CALLS THAT LAYER xml MAKES, in the words of its plain laws: CutPrefix, HasPrefix, Cut, Contains, TrimLeft, Trim; the world that they want ('Gw').
-/
set_option linter.unusedVariables false
namespace Go.Proofs.YtmmpojhjpghdlaaGreatDoor.Xm
open Go.Lib Go.RowKit Go.Shelf

/-! ### the world -/
/-- utf8's tables, bytealg's MaxLen some number, strconv's two errors some error -/
structure Gw (w : World) : Prop where
  tabs : Ch.Tabs w
  most : ∃ m, w.cell? ⟨2, 0, none⟩ = some (.int .i64 m)
  syn : ∃ ev, w.cell? ⟨3, 0, none⟩ = some ev ∧ (ev = .nilIface ∨ ∃ te pe, ev = .iface te pe)
  rng : ∃ ev, w.cell? ⟨4, 0, none⟩ = some ev ∧ (ev = .nilIface ∨ ∃ te pe, ev = .iface te pe)
theorem lt_of_cell {w : World} {a : Addr} {v : Value} (h : w.cell? a = some v) : a.block < w.heap.size := World.block_lt_of_cell? w a h
theorem gw_below {w w' : World} (h : Gw w) (hb : Below w.heap.size w w') : Gw w' := by
  obtain ⟨h1, ⟨m, h2⟩, ⟨e, h3, h3'⟩, ⟨f, h4, h4'⟩⟩ := h
  refine ⟨Ch.tabs_below h1 hb, ⟨m, ?_⟩, ⟨e, ?_, h3'⟩, ⟨f, ?_, h4'⟩⟩
  · rw [hb.cell (p := ⟨2, 0, none⟩) (lt_of_cell h2)]; exact h2
  · rw [hb.cell (p := ⟨3, 0, none⟩) (lt_of_cell h3)]; exact h3
  · rw [hb.cell (p := ⟨4, 0, none⟩) (lt_of_cell h4)]; exact h4

/-! ### prefixes -/
theorem data_is {x y : ByteArray} (h : x.data.toList = y.data.toList) : x = y := ByteArray.ext (Array.toList_inj.1 h)
theorem mk_is (l : Row) (x : ByteArray) (h : x.data.toList = l) : (⟨l.toArray⟩ : ByteArray) = x := data_is (by simp [h])
theorem has_pre (s p : Row) : Lib.hasPrefix s p = p.isPrefixOf s := rfl
/-- strings.CutPrefix -/
def PreP (t p : ByteArray) (e : Ending) : Prop :=
  (p.data.toList.isPrefixOf t.data.toList = false ∧ e = .returned (.tuple #[.string t, .bool false])) ∨ ∃ r : ByteArray, t.data.toList = p.data.toList ++ r.data.toList ∧ e = .returned (.tuple #[.string r, .bool true])
theorem pre_any (t p : ByteArray) (w : World) : Calls Tryz.prog 95 #[.string t, .string p] w fun e w' => PreP t p e ∧ w' = w := by
  refine (Tryz.strings_CutPrefix t p w).mono ?_
  rintro e w' ⟨rfl, rfl⟩
  refine ⟨?_, rfl⟩
  rcases pre_split p.data.toList t.data.toList with ⟨h, r, hr⟩ | h
  · right
    refine ⟨⟨r.toArray⟩, by rw [hr], ?_⟩
    have h1 : Lib.hasPrefix t.data.toList p.data.toList = true := h
    have h2 : Lib.trimPrefix t.data.toList p.data.toList = r := by
      unfold Lib.trimPrefix
      rw [h1, hr]; simp
    rw [h1, h2]
  · left
    have h1 : Lib.hasPrefix t.data.toList p.data.toList = false := h
    have h2 : Lib.trimPrefix t.data.toList p.data.toList = t.data.toList := by
      unfold Lib.trimPrefix
      rw [h1]; rfl
    refine ⟨h, ?_⟩
    rw [h1, h2, mk_is _ t rfl]
theorem hasPre_any (t p : ByteArray) (w : World) : Calls Tryz.prog 121 #[.string t, .string p] w fun e w' => e = .returned (.bool (p.data.toList.isPrefixOf t.data.toList)) ∧ w' = w := Tryz.strings_HasPrefix t p w

/-! ### a text found -/
theorem find_index (p : Row) (hp : p ≠ []) : ∀ (l : Row), (find p l = none ∧ Lib.index l p = -1) ∨ ∃ k : Nat, Lib.index l p = k ∧ find p l = some (l.take k, l.drop (k + p.length))
  | [] => by
    left
    refine ⟨rfl, ?_⟩
    show (if p.isEmpty = true then (0 : Int) else -1) = -1
    rw [if_neg]
    simpa using hp
  | c :: r => by
    by_cases h : p.isPrefixOf (c :: r) = true
    · right
      refine ⟨0, ?_, ?_⟩
      · show (if p.isPrefixOf (c :: r) = true then (0 : Int) else _) = _
        rw [if_pos h]; rfl
      · show (if p.isPrefixOf (c :: r) = true then _ else _) = _
        rw [if_pos h]; simp
    · have e1 : Lib.index (c :: r) p = if (Lib.index r p == -1) = true then -1 else Lib.index r p + 1 := by
        show (if p.isPrefixOf (c :: r) = true then (0 : Int) else _) = _
        rw [if_neg h]
      have e2 : find p (c :: r) = (find p r).map fun q => (c :: q.1, q.2) := by
        show (if p.isPrefixOf (c :: r) = true then _ else _) = _
        rw [if_neg h]
      rcases find_index p hp r with ⟨h1, h2⟩ | ⟨k, h1, h2⟩
      · left
        rw [e1, e2, h1, h2]; exact ⟨rfl, rfl⟩
      · right
        refine ⟨k + 1, ?_, ?_⟩
        · rw [e1, h1, if_neg (by simp)]; rfl
        · rw [e2, h2]
          simp [Nat.add_right_comm]
/-- strings.Cut -/
def CutP (t p : ByteArray) (e : Ending) : Prop :=
  (find p.data.toList t.data.toList = none ∧ e = .returned (.tuple #[.string t, .string ⟨#[]⟩, .bool false])) ∨ ∃ a r : ByteArray, find p.data.toList t.data.toList = some (a.data.toList, r.data.toList) ∧ e = .returned (.tuple #[.string a, .string r, .bool true])
theorem cut_any (t p : ByteArray) (hp : p.data.toList ≠ []) (w : World) (hG : Gw w) (ht : t.size ≤ 65536) : Calls Tryz.prog 96 #[.string t, .string p] w fun e w' => CutP t p e ∧ Below w.heap.size w w' := by
  obtain ⟨m, hm⟩ := hG.most
  refine (Tryz.strings_Cut t p m w (by omega) hm).mono ?_
  rintro e w' ⟨rfl, n, rfl⟩
  refine ⟨?_, below_drewN n (Below.refl _ _)⟩
  rcases find_index p.data.toList hp t.data.toList with ⟨h1, h2⟩ | ⟨k, h1, h2⟩
  · left
    have : Lib.cut t.data.toList p.data.toList = (t.data.toList, [], false) := by unfold Lib.cut; rw [h2]; rfl
    refine ⟨h1, ?_⟩
    rw [this, mk_is _ t rfl]
  · right
    have : Lib.cut t.data.toList p.data.toList = (t.data.toList.take k, t.data.toList.drop (k + p.data.toList.length), true) := by
      unfold Lib.cut
      rw [h1, if_pos (by omega)]; simp
    refine ⟨⟨(t.data.toList.take k).toArray⟩, ⟨(t.data.toList.drop (k + p.data.toList.length)).toArray⟩, by rw [h2], ?_⟩
    rw [this]
theorem contains_any (t p : ByteArray) (hp : p.data.toList ≠ []) (w : World) (hG : Gw w) (ht : t.size ≤ 65536) : Calls Tryz.prog 115 #[.string t, .string p] w fun e w' => e = .returned (.bool (find p.data.toList t.data.toList).isSome) ∧ w' = w := by
  obtain ⟨m, hm⟩ := hG.most
  refine (Tryz.strings_Contains t p m w (by omega) hm).mono ?_
  rintro e w' ⟨rfl, rfl⟩
  refine ⟨?_, rfl⟩
  have : Lib.contains t.data.toList p.data.toList = (find p.data.toList t.data.toList).isSome := by
    unfold Lib.contains
    rcases find_index p.data.toList hp t.data.toList with ⟨h1, h2⟩ | ⟨k, h1, h2⟩
    · rw [h1, h2]; rfl
    · rw [h1, h2]
      simp
  rw [this]
theorem find_has (c : UInt8) : ∀ (l : Row), (find [c] l).isSome = decide (c ∈ l)
  | [] => rfl
  | x :: l => by
    rw [find]
    by_cases h : c = x
    · rw [if_pos (by simp [h]), h]; simp
    · rw [if_neg (by rw [pre1 h]; decide), Option.isSome_map, find_has c l]
      simp [h]

/-! ### blanks cut off -/
theorem blk_in (c : UInt8) : ([32, 9, 10, 13] : Row).contains c = blk c := Ch.byte_all (P := fun c => ([32, 9, 10, 13] : Row).contains c = blk c) (by decide +kernel) c
def blankS : ByteArray := ⟨#[32, 9, 10, 13]⟩
theorem blankS_row : blankS.data.toList = [32, 9, 10, 13] := rfl
theorem blankS_asc : ∀ (j : Nat) (b : UInt8), blankS.data.toList[j]? = some b → b.toNat < 128 := by
  intro j b h
  have hm := List.mem_of_getElem? h
  rw [blankS_row] at hm
  simp at hm
  rcases hm with rfl | rfl | rfl | rfl <;> decide
theorem trimL_any (s : ByteArray) (w : World) : Calls Tryz.prog 114 #[.string s, .string ⟨#[32, 9, 10, 13]⟩] w fun e w' => (∃ x : ByteArray, e = .returned (.string x) ∧ x.data.toList = s.data.toList.dropWhile blk) ∧ Below w.heap.size w w' := by
  refine (Any.strings_TrimLeft_laid Tryz.lays161 (by kernel_rfl) s blankS w (by decide) blankS_asc).mono ?_
  rintro e w' ⟨rfl, hb⟩
  refine ⟨⟨_, rfl, ?_⟩, hb⟩
  unfold Lib.trimLeftS
  rw [blankS_row]
  simp only [blk_in]
theorem dw_nil (p : UInt8 → Bool) : ∀ (l : Row), l.dropWhile p = [] ↔ ∀ x ∈ l, p x = true
  | [] => by simp
  | c :: l => by
    rw [List.dropWhile_cons]
    cases hc : p c with
    | true =>
      rw [if_pos rfl, dw_nil p l]
      simp [hc]
    | false =>
      rw [if_neg (by decide)]
      simp [hc]
theorem trim_blank (l : Row) : ((Lib.trimS l [32, 9, 10, 13]) = []) ↔ blanks l = true := by
  unfold Lib.trimS Lib.trimLeftS Lib.trimRightS blanks
  simp only [blk_in]
  show List.dropWhile blk (List.dropWhile blk l.reverse).reverse = [] ↔ _
  rw [dw_nil, List.all_eq_true]
  constructor
  · intro h x hx
    rcases hb : blk x with _ | _
    · exfalso
      -- what the reverse's dropWhile leaves ends with a byte that is no blank
      have hne : l.reverse.dropWhile blk ≠ [] := fun e => by
        rw [dw_nil] at e
        have := e x (by simpa using hx)
        rw [hb] at this; cases this
      cases hd : l.reverse.dropWhile blk with
      | nil => exact hne hd
      | cons y r =>
        have h1 := List.head?_dropWhile_not blk l.reverse
        rw [hd] at h1
        simp at h1
        have := h y (by rw [hd]; simp)
        rw [h1] at this; cases this
    · rfl
  · intro h x hx
    have hx2 : x ∈ l.reverse.dropWhile blk := by simpa using hx
    have := (List.dropWhile_sublist blk (l := l.reverse)).subset hx2
    exact h x (by simpa using this)
theorem trim_any (s : ByteArray) (w : World) (hs : s.size ≤ 9223372036854775807) : Calls Tryz.prog 137 #[.string s, .string ⟨#[32, 9, 10, 13]⟩] w fun e w' => (∃ x : ByteArray, e = .returned (.string x) ∧ (x.data.toList = [] ↔ blanks s.data.toList = true)) ∧ Below w.heap.size w w' := by
  refine (Any.strings_Trim_laid Tryz.lays160 (by kernel_rfl) s blankS w hs (by decide) blankS_asc).mono ?_
  rintro e w' ⟨rfl, hb⟩
  refine ⟨⟨_, rfl, ?_⟩, hb⟩
  rw [← trim_blank, blankS_row]
end Go.Proofs.YtmmpojhjpghdlaaGreatDoor.Xm

/-
  WHAT THE CALLS OF LAYER xml ANSWER (each is shown of the program where its code is walked), AND THE WALK OF THE LAWS' first.
-/
set_option linter.unusedVariables false
namespace Go.Proofs.YtmmpojhjpghdlaaGreatDoor.Xm
open Go.Lib Go.RowKit

/-! ### how much is printed -/
def szP (p : Pc) : Nat := p.name.length + p.text.length + 1
def szs (ps : List Pc) : Nat := (ps.map szP).sum
theorem esc_len (c : UInt8) : (esc c).length ≤ 5 := by
  unfold esc
  repeat' split
  all_goals simp
theorem escT_len : ∀ (t : Row), (escT t).length ≤ 5 * t.length
  | [] => Nat.zero_le _
  | c :: t => by
    have e : escT (c :: t) = esc c ++ escT t := by simp [escT]
    have h1 := esc_len c
    have h2 := escT_len t
    rw [e, List.length_append, List.length_cons]; omega
theorem nm_len (p : Pc) : (nm p).length ≤ p.name.length + 2 := by
  unfold nm
  repeat' split
  all_goals simp
theorem chunk_len (f o : Bool) (p : Pc) (r : List Pc) : (chunk f o p r).length ≤ 8 * szP p + (if f = true then 56 else 0) := by
  have h1 := nm_len p
  have h2 := escT_len p.text
  have h3 : declS.length = 56 := rfl
  have h4 : (if p.kind = 1 then 60 :: (nm p ++ (if f = true then declS else []) ++ (if nextC r = true then ([47, 62] : Row) else [62])) else []).length ≤ p.name.length + 5 + (if f = true then 56 else 0) := by
    have h5 : (if f = true then declS else []).length = if f = true then 56 else 0 := by split <;> rfl
    have h6 : (if nextC r = true then ([47, 62] : Row) else [62]).length ≤ 2 := by split <;> simp
    split
    · rw [List.length_cons, List.length_append, List.length_append, h5]; omega
    · simp
  have h5 : (if p.kind = 2 ∧ o = false then 60 :: 47 :: (nm p ++ [62]) else [] : Row).length ≤ p.name.length + 5 := by
    split
    · rw [List.length_cons, List.length_cons, List.length_append, List.length_singleton]; omega
    · simp
  by_cases hk : p.kind = 1
  · unfold chunk szP
    rw [List.length_append, List.length_append, if_neg (c := p.kind = 2 ∧ o = false) (fun e => by rw [hk] at e; exact absurd e.1 (by decide)), List.length_nil]
    omega
  · unfold chunk szP
    rw [if_neg hk, List.nil_append, List.length_append]
    omega
theorem chunks_sum : ∀ (ps : List Pc) (o : Bool), ((chunks false o ps).flatten).length ≤ 8 * szs ps
  | [], _ => Nat.zero_le _
  | p :: r, o => by
    have h1 := chunk_len false o p r
    have h2 := chunks_sum r (decide (p.kind = 1))
    show ((chunk false o p r :: chunks false _ r).flatten).length ≤ _
    have h3 : szs (p :: r) = szP p + szs r := by simp [szs]
    rw [List.flatten_cons, List.length_append, h3]
    rw [if_neg (by decide)] at h1
    omega
theorem prX_len (ps : List Pc) : (prX ps).length ≤ 8 * szs ps + 56 := by
  cases ps with
  | nil => exact Nat.zero_le _
  | cons p r =>
    have h1 := chunk_len true false p r
    have h2 := chunks_sum r (decide (p.kind = 1))
    show ((chunk true false p r :: chunks false _ r).flatten).length ≤ _
    have h3 : szs (p :: r) = szP p + szs r := by simp [szs]
    rw [List.flatten_cons, List.length_append, h3]
    rw [if_pos rfl] at h1
    omega
theorem szs_mem {ps : List Pc} {p : Pc} (h : p ∈ ps) : szP p ≤ szs ps := by
  unfold szs
  induction ps with
  | nil => cases h
  | cons q r ih =>
    rw [List.map_cons, List.sum_cons]
    rcases List.mem_cons.1 h with rfl | h
    · omega
    · have := ih h; omega
theorem szs_len (ps : List Pc) : ps.length ≤ szs ps := by
  induction ps with
  | nil => exact Nat.zero_le _
  | cons q r ih =>
    have h3 : szs (q :: r) = szP q + szs r := by simp [szs]
    rw [h3, List.length_cons]; unfold szP; omega

/-! ### contracts -/
abbrev mostS : Nat := 140737488355328
abbrev mostP : Nat := 68719476736
theorem most_of {s : ByteArray} (h : s.data.toList.length ≤ reachBytes) : s.size ≤ mostS := by
  have e : reachBytes = 140737488351232 := rfl
  rw [Lib.size_eq]; unfold mostS; omega
def ParseC : Prop := ∀ (t : ByteArray) (w : World), t.size ≤ mostS → Gw w → Calls Tryz.prog 17 #[.string t] w fun e w' => (∃ v, e = .returned (.tuple #[v, .int .i64 (parseX t.data.toList).2]) ∧ PcsAt w' v (parseX t.data.toList).1) ∧ Below w.heap.size w w'
def CheckC : Prop := ∀ (v : Value) (ps : List Pc) (w : World), PcsAt w v ps → szs ps ≤ mostP → Gw w → Calls Tryz.prog 83 #[v] w fun e w' => e = .returned (.int .i64 (if right ps = true then 0 else 70)) ∧ Below w.heap.size w w'
/-- what Print answers -/
def PrintP (ps : List Pc) (e : Ending) : Prop :=
  (right ps = false ∧ e = .returned (.tuple #[.string ⟨#[]⟩, .int .i64 70])) ∨
  (right ps = true ∧ 65536 < (prX ps).length ∧ e = .returned (.tuple #[.string ⟨#[]⟩, .int .i64 11])) ∨
  (right ps = true ∧ (prX ps).length ≤ 65536 ∧ e = .returned (.tuple #[.string ⟨(prX ps).toArray⟩, .int .i64 0]))
def PrintC : Prop := ∀ (v : Value) (ps : List Pc) (w : World), PcsAt w v ps → szs ps ≤ mostP → Gw w → Calls Tryz.prog 56 #[v] w fun e w' => PrintP ps e ∧ Below w.heap.size w w'

/-! ### the laws' first -/
def firstT : Row := [60, 97, 32, 120, 109, 108, 110, 115, 61, 34, 68, 65, 86, 58, 34, 62, 32, 60, 98, 47, 62, 120, 38, 97, 109, 112, 59, 60, 47, 97, 62]
def firstPs : List Pc := [⟨1, 1, [97], []⟩, ⟨1, 1, [98], []⟩, ⟨2, 1, [98], []⟩, ⟨3, 0, [], [120, 38]⟩, ⟨2, 1, [97], []⟩]
theorem first_parse : parseX firstT = (firstPs, 0) := by decide +kernel
theorem first_bad : parseX [60, 97, 62, 60, 47, 98, 62] = ([], 70) := by decide +kernel
theorem first_right : right firstPs = true := by decide +kernel
theorem first_print : prX firstPs = [60, 68, 58, 97, 32, 120, 109, 108, 110, 115, 58, 68, 61, 34, 68, 65, 86, 58, 34, 32, 120, 109, 108, 110, 115, 58, 67, 61, 34, 117, 114, 110, 58, 105, 101, 116, 102, 58, 112, 97, 114, 97, 109, 115, 58, 120, 109, 108, 58, 110, 115, 58, 99, 97, 114, 100, 100, 97, 118, 34, 62, 60, 68, 58, 98, 47, 62, 120, 38, 97, 109, 112, 59, 60, 47, 68, 58, 97, 62] := by decide +kernel
theorem PcsAt.form {w : World} {v : Value} {ps : List Pc} (h : PcsAt w v ps) : ∃ A c, v = .slice A ps.length c := by
  obtain ⟨A, b, off, c, h, _⟩ := h
  exact ⟨A, c, h⟩
end Go.Proofs.YtmmpojhjpghdlaaGreatDoor.Xm

/-
  THE REFERENCE's text, element, full (layer dav).
-/
set_option linter.unusedVariables false
namespace Go.Proofs.YtmmpojhjpghdlaaGreatDoor.Dv
open Go.Lib Go.RowKit
open Xm (Row Pc sv PsOwn PcsAt PcCells append_piece below_then sv_some sv_str left_of pcells pcells_len pcells_at info_parts infoPc zeroPc)

set_option maxRecDepth 100000 in
theorem text_any (x : ByteArray) (w : World) (hs : x.size ≤ 9223372036854775807) :
    Calls Tryz.prog 27 #[.string x] w fun e w' => e = .returned (.bool (txt x.data.toList)) ∧ w' = w := by
  have c1 := Ch.refValid_any x w hs
  have c2 := Xm.refBlanks_any x w hs
  obtain ⟨R, hR⟩ : ∃ R, txt x.data.toList = R := ⟨_, rfl⟩
  rw [hR]
  have hR' := Lib.hid (show (Ch.valid x.data.toList && (x.data.toList.isEmpty || !Xm.blanks x.data.toList)) = R from hR)
  clear hR
  generalize Ch.valid x.data.toList = V at c1 hR'
  generalize Xm.blanks x.data.toList = Bk at c2 hR'
  have he : (x.data.toList.isEmpty = true ∧ x.size = 0) ∨ (x.data.toList.isEmpty = false ∧ ¬ x.size = 0) := by
    rw [Lib.size_eq]
    cases x.data.toList with
    | nil => exact .inl ⟨rfl, rfl⟩
    | cons => exact .inr ⟨rfl, by simp⟩
  obtain ⟨n, hn⟩ : ∃ n, x.size = n := ⟨_, rfl⟩
  rw [hn] at he
  cases V
  · go_enter Tryz.func27, Tryz.ntmps27
    go_wp2_with fail
    go_at_call 45
    with_reducible refine c1.mono ?_
    rintro e w' ⟨rfl, rfl⟩
    go_wp2
    go_ret
    exact ⟨by rw [← hR'.out]; rfl, rfl⟩
  · rcases he with ⟨h1, h2⟩ | ⟨h1, h2⟩
    · rw [h1] at hR'
      have hz : ((n : Int) == 0) = true := by rw [h2]; rfl
      have h3 := Lib.hid hR'.out
      clear h1 h2 c2 hR'
      go_enter Tryz.func27, Tryz.ntmps27
      go_wp2_with fail
      go_at_call 45
      with_reducible refine c1.mono ?_
      rintro e w' ⟨rfl, rfl⟩
      go_wp2
      go_ret
      exact ⟨by rw [← h3.out]; rfl, rfl⟩
    · rw [h1] at hR'
      have hz : ((n : Int) == 0) = false := by rw [beq_eq_false_iff_ne]; omega
      have h3 := Lib.hid hR'.out
      clear h1 h2 hR'
      cases Bk
      all_goals
        go_enter Tryz.func27, Tryz.ntmps27
        go_wp2_with fail
        go_at_call 45
        with_reducible refine c1.mono ?_
        rintro e w' ⟨rfl, rfl⟩
        go_wp2_with fail
        go_at_call 54
        with_reducible refine c2.mono ?_
        rintro e w' ⟨rfl, rfl⟩
        go_wp2
        go_ret
        exact ⟨by rw [← h3.out]; rfl, rfl⟩
theorem pcells_app : ∀ (a b : List Pc), pcells (a ++ b) = pcells a ++ pcells b
  | [], _ => rfl
  | p :: a, b => by
    have := pcells_app a b
    simp only [List.cons_append, pcells, this]
theorem pcells_ones : ∀ (ps : List Pc), ∀ u ∈ pcells ps, u.oneCell' = true
  | [], u, h => by cases h
  | p :: ps, u, h => by
    simp only [pcells, List.mem_cons] at h
    rcases h with rfl | rfl | rfl | rfl | h
    · rfl
    · rfl
    · rfl
    · rfl
    · exact pcells_ones ps u h
/-- pieces appended onto a row of the call's own, wherever they lie -/
theorem append_row {w : World} {ops : Array Oper} {rest : List Oper} {o : Oper} {a : Act} {Q : Exit → Act → World → Prop} (hgd : o.guard = none) (s x : Operand)
    (ho : o.op = .call { callee := .builtin .append, args := #[s, x], argTypes := #[42, 42] }) (base : Nat) (v xv : Value) (qs ps : List Pc) (hs : a.eval s = v) (hx : a.eval x = xv)
    (hown : PsOwn base v qs w) (hS : PcsAt w xv ps) (hls : qs.length + ps.length ≤ 1099511627776) (hbase : base ≤ w.heap.size)
    (h : ∀ v' w', PsOwn base v' (qs ++ ps) w' → w.grownBy w' v.ownBlock → wpList Tryz.prog ops Q rest (a.put o.dst v') w') : wpList Tryz.prog ops Q (o :: rest) a w := by
  obtain ⟨i0, hi, hz0, hz1, hz2⟩ := info_parts infoPc
  obtain ⟨A, b, off, c, rfl, h1, h2, h3, h4⟩ := hS
  have hown0 : w.ownsRow base 75 4 v qs.length (pcells qs) := hown
  cases A with
  | none =>
    have hl : ps = [] := by
      cases ps with
      | nil => rfl
      | cons y t =>
        obtain ⟨h5, _⟩ := h3 (by simp)
        cases h5
    subst hl
    refine wpList_plain hgd fun K hK => ?_
    rw [List.append_nil] at h
    have hrun : (Builtin.append_ #[42, 42] o.type #[v, .slice none 0 c]).run Tryz.prog w = .ok v w := by
      rcases hown0.2 with ⟨rfl, _⟩ | ⟨g, cap, cur, rfl, _, _, hnc, _⟩
      · simp [Builtin.append_, run_underlying Tryz.underlying42, sizeOf, typeInfo, hi, Builtin.lenOf, Builtin.firstCells]
      · simp [Builtin.append_, run_underlying Tryz.underlying42, sizeOf, typeInfo, hi, Builtin.lenOf, Builtin.firstCells, storeCells, hnc]
    have hk := hK _ _ (h v w hown (World.grownBy.refl w _))
    unfold Oper.wp execOp
    simp only [ho, resolve, invoke, builtin, Sem.run_bind, Sem.run_pure, Result.andThen_ok, List.map_toArray, List.map_cons, List.map_nil, hs, hx]
    rw [show (List.length ([] : List Pc)) = 0 from rfl, hrun]
    exact hk
  | some ad =>
    refine wpList_append_own _ hgd s x 42 ho base 75 i0 zeroPc 4 48 Tryz.underlying42 hi hz0 hz1 hz2 rfl (by decide) v qs.length (pcells qs) hs hown0 ad ps.length c (pcells ps) hx (pcells_len ps) (fun j u hj => ?_) (fun u hu => pcells_ones ps u hu) (by unfold maxLen; omega) (by omega) hbase (fun v' w' h5 h6 _ => h v' w' ?_ h6)
    · have hjl := (List.getElem?_eq_some_iff.1 hj).1
      rw [pcells_len] at hjl
      obtain ⟨q, hq⟩ : ∃ q, j / 4 = q := ⟨_, rfl⟩
      have hql : q < ps.length := by omega
      have hp : ps[q]? = some ps[q] := List.getElem?_eq_getElem hql
      obtain ⟨p, hpe⟩ : ∃ p, ps[q] = p := ⟨_, rfl⟩
      rw [hpe] at hp
      obtain ⟨e0, e1, e2, e3⟩ := pcells_at ps q p hp
      obtain ⟨g0, g1, g2, g3⟩ := h4 q p hp
      obtain ⟨he, _⟩ := h3 (by omega)
      obtain rfl := Option.some.inj he
      have hadd : (⟨b, off, none⟩ : Addr).add j = ⟨b, off + j, none⟩ := by
        unfold Addr.add
        split
        · rename_i h; subst h; rfl
        · rfl
      rw [hadd]
      have hr : j = q * 4 ∨ j = q * 4 + 1 ∨ j = q * 4 + 2 ∨ j = q * 4 + 3 := by omega
      rcases hr with hr | hr | hr | hr
      · rw [hr] at hj ⊢; rw [e0] at hj; rw [← Option.some.inj hj]; exact g0
      · rw [hr] at hj ⊢; rw [e1] at hj; rw [← Option.some.inj hj, ← Nat.add_assoc]; exact g1
      · rw [hr] at hj ⊢; rw [e2] at hj; rw [← Option.some.inj hj, ← Nat.add_assoc]; exact g2
      · rw [hr] at hj ⊢; rw [e3] at hj; rw [← Option.some.inj hj, ← Nat.add_assoc]; exact g3
    · unfold PsOwn
      rw [pcells_app, List.length_append]
      exact h5
theorem row_made (w : World) (k s : Int) (n t : ByteArray) : PsOwn w.heap.size (.slice (some ⟨w.heap.size, 0, none⟩) 1 1) [⟨k, s, n.data.toList, t.data.toList⟩] (w.alloc (.cells #[.int .i64 k, .int .i64 s, .string n, .string t] 75)) := by
  refine ⟨rfl, .inr ⟨w.heap.size, 1, _, rfl, Nat.le_refl _, heap_alloc_new w _, Nat.le_refl _, by unfold maxLen; omega, rfl, ?_⟩⟩
  simp [pcells, Xm.sv_data]
set_option maxHeartbeats 4000000 in
set_option maxRecDepth 100000 in
theorem element_any (s : Int) (n : ByteArray) (xv : Value) (ps : List Pc) (w : World) (hv : PcsAt w xv ps) (hl : ps.length + 2 ≤ 1099511627776) :
    Calls Tryz.prog 29 #[.int .i64 s, .string n, xv] w fun e w' => (∃ v, e = .returned v ∧ PsOwn w.heap.size v (el s n.data.toList ps) w') ∧ Below w.heap.size w w' := by
  obtain ⟨Z, hZ⟩ : ∃ Z, w.heap.size = Z := ⟨_, rfl⟩
  obtain ⟨wB, hwB⟩ : ∃ wB, w.alloc (.cells #[.int .i64 1, .int .i64 s, .string n, .string ⟨#[]⟩] 75) = wB := ⟨_, rfl⟩
  have hbB : Below w.heap.size w wB := by rw [← hwB]; exact (Below.refl _ _).alloc (Nat.le_refl _) _
  have hr0 : PsOwn Z (.slice (some ⟨w.heap.size, 0, none⟩) 1 1) [opn s n.data.toList] wB := by rw [← hwB, ← hZ]; exact row_made w 1 s n ⟨#[]⟩
  obtain ⟨q0, hq0⟩ : ∃ q0, ([opn s n.data.toList] : List Pc) = q0 := ⟨_, rfl⟩
  have hq0l : q0.length = 1 := by rw [← hq0]; rfl
  have hq0' := Lib.hid (show ∀ r : List Pc, el s n.data.toList r = q0 ++ r ++ [cls s n.data.toList] from fun r => by rw [← hq0]; rfl)
  rw [hq0] at hr0
  have hv1 := Lib.hid (hv.kept hbB)
  have hr0' := Lib.hid hr0
  have hbB' := Lib.hid hbB
  have hzB : Z ≤ wB.heap.size := by rw [← hZ]; exact hbB.size
  have hn : sv n.data.toList = .string n := Xm.sv_data n
  obtain ⟨A, c, ev⟩ := hv.form
  obtain ⟨k, hk⟩ : ∃ k, ps.length = k := ⟨_, rfl⟩
  rw [hk] at ev
  subst ev
  have hk' := Lib.hid hk
  rw [hk] at hl
  have hll : q0.length + ps.length ≤ 1099511627776 := by rw [hk, hq0l]; omega
  obtain ⟨q1, hq1⟩ : ∃ q1, q0 ++ ps = q1 := ⟨_, rfl⟩
  have hll2 : q1.length ≤ 1099511627776 := by rw [← hq1, List.length_append, hk, hq0l]; omega
  have hq1' := Lib.hid hq1
  have hZ' := Lib.hid hZ
  clear hr0 hbB hv hk hq0 hq0l hq1
  go_enter Tryz.func29, Tryz.ntmps29
  rw [hZ'.out] at hr0'
  go_wp2_with (at_builtin; refine append_row rfl _ _ rfl Z _ _ q0 ps rfl rfl hr0'.out hv1.out hll hzB ?_)
  intro v5 w5 hown5 hg5
  rw [hq1'.out] at hown5
  have hb5 : Below Z w w5 := (hbB'.out.mono (by rw [hZ'.out]; exact Nat.le_refl _)).grown hg5 hzB (fun g hg => (hr0'.out.lt g hg).1)
  have hb5' := Lib.hid hb5
  have hown5' := Lib.hid hown5
  have hz5 : Z ≤ w5.heap.size := Nat.le_trans hzB hg5.size
  obtain ⟨oA, oc, eo⟩ := Xm.ownsRow_form hown5
  obtain ⟨on, hon⟩ : ∃ on, q1.length = on := ⟨_, rfl⟩
  rw [hon] at eo hll2
  subst eo
  have hll3 := Lib.hid hll2
  have hon' := Lib.hid hon
  clear hb5 hown5 hg5 hon hll2 hll
  go_wp2_with (at_builtin; refine append_piece (cls s n.data.toList) n ⟨#[]⟩ 2 s hn rfl rfl rfl rfl _ _ rfl Z _ q1 _ rfl rfl rfl hown5'.out (by rw [hon'.out]; exact hll3.out) hz5 ?_)
  intro v8 w8 hown8 hg8
  have hfin := Lib.hid (And.intro hown8 (left_of hown5'.out hg8 Z w hb5'.out (Nat.le_refl _) hz5))
  clear hown8 hg8
  go_wp2
  go_ret
  exact ⟨⟨_, rfl, by rw [hZ'.out, hq0'.out, hq1'.out]; exact hfin.out.1⟩, by rw [hZ'.out]; exact hfin.out.2⟩
set_option maxHeartbeats 4000000 in
set_option maxRecDepth 100000 in
theorem full_any (s : Int) (n t : ByteArray) (w : World) :
    Calls Tryz.prog 28 #[.int .i64 s, .string n, .string t] w fun e w' => (∃ v, e = .returned v ∧ PsOwn w.heap.size v (full s n.data.toList t.data.toList) w') ∧ Below w.heap.size w w' := by
  obtain ⟨wB, hwB⟩ : ∃ wB, w.alloc (.cells #[.int .i64 3, .int .i64 0, .string ⟨#[]⟩, .string t] 75) = wB := ⟨_, rfl⟩
  have hbB : Below w.heap.size w wB := by rw [← hwB]; exact (Below.refl _ _).alloc (Nat.le_refl _) _
  have hr0 : PsOwn w.heap.size (.slice (some ⟨w.heap.size, 0, none⟩) 1 1) [⟨3, 0, [], t.data.toList⟩] wB := by rw [← hwB]; exact row_made w 3 0 ⟨#[]⟩ t
  have c1 := element_any s n _ _ wB hr0.at (by simp)
  have hbB' := Lib.hid hbB
  obtain ⟨R, hR⟩ : ∃ R, full s n.data.toList t.data.toList = R := ⟨_, rfl⟩
  rw [hR]
  have hR' := Lib.hid (show el s n.data.toList [⟨3, 0, [], t.data.toList⟩] = R from hR)
  rw [hR'.out] at c1
  clear hR hr0 hbB
  go_enter Tryz.func28, Tryz.ntmps28
  go_wp2_with fail
  go_at_call 29
  with_reducible refine c1.mono ?_
  rintro e w1 ⟨⟨v, rfl, hown⟩, hb1⟩
  have hfin := Lib.hid (And.intro (Xm.ownsRow_less hown hbB'.out.size) (below_then hbB'.out hb1))
  obtain ⟨oA, oc, eo⟩ := Xm.ownsRow_form hown
  obtain ⟨on, hon⟩ : ∃ on, R.length = on := ⟨_, rfl⟩
  rw [hon] at eo
  subst eo
  clear hown hb1 c1 hon
  go_wp2
  go_ret
  exact ⟨⟨_, rfl, hfin.out.1⟩, hfin.out.2⟩
end Go.Proofs.YtmmpojhjpghdlaaGreatDoor.Dv
