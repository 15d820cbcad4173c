import Derived.Test.YtjeagjleolmibaaGreatDoorMg1

/-
  PLAIN LAWS OF LAYER xml: a document read step by step ('step', 'go', 'docP'). Nothing of the program is run here.
-/
set_option linter.unusedVariables false
namespace Go.Proofs.YtjeagjleolmibaaGreatDoor.Xm
abbrev Row := List UInt8

/-! ### bytes and names -/
def blk (c : UInt8) : Bool := c == 32 || c == 9 || c == 10 || c == 13
def blanks (t : Row) : Bool := t.all blk
def ftB (c : UInt8) : Bool := decide (97 ≤ c.toNat ∧ c.toNat ≤ 122 ∨ 65 ≤ c.toNat ∧ c.toNat ≤ 90 ∨ c.toNat = 95)
def nxB (c : UInt8) : Bool := ftB c || decide (48 ≤ c.toNat ∧ c.toNat ≤ 57 ∨ c.toNat = 45 ∨ c.toNat = 46)
/-- how many bytes at the front are of a name (however long) -/
def nlen : Row → Nat
  | [] => 0
  | c :: r => if ftB c = true then (r.takeWhile nxB).length + 1 else 0
/-- the name at the front, and what is behind it -/
def nameC (t : Row) : Option (Row × Row) := if nlen t = 0 ∨ 64 < nlen t then none else some (t.take (nlen t), t.drop (nlen t))
def nameB (t : Row) : Bool := match t with
  | [] => false
  | c :: r => ftB c && r.all nxB && decide (r.length < 64)
theorem ft_nx {c : UInt8} (h : ftB c = true) : nxB c = true := by unfold nxB; rw [h]; rfl
theorem takeWhile_front {p : UInt8 → Bool} : ∀ (a r : Row), a.all p = true → (∀ x, r.head? = some x → p x = false) → (a ++ r).takeWhile p = a
  | [], r, _, hr => by
    cases r with
    | nil => rfl
    | cons x t => simp [hr x rfl]
  | c :: a, r, h, hr => by
    simp only [List.all_cons, Bool.and_eq_true] at h
    simp [h.1, takeWhile_front a r h.2 hr]
theorem dropWhile_front {p : UInt8 → Bool} : ∀ (a r : Row), a.all p = true → (∀ x, r.head? = some x → p x = false) → (a ++ r).dropWhile p = r
  | [], r, _, hr => by
    cases r with
    | nil => rfl
    | cons x t => simp [hr x rfl]
  | c :: a, r, h, hr => by
    simp only [List.all_cons, Bool.and_eq_true] at h
    simp [h.1, dropWhile_front a r h.2 hr]
theorem nameC_front (n r : Row) (h : nameB n = true) (hr : ∀ x, r.head? = some x → nxB x = false) : nameC (n ++ r) = some (n, r) := by
  cases n with
  | nil => cases h
  | cons c t =>
    simp only [nameB, Bool.and_eq_true, decide_eq_true_eq] at h
    have hn : nlen ((c :: t) ++ r) = t.length + 1 := by
      show (if ftB c = true then ((t ++ r).takeWhile nxB).length + 1 else 0) = _
      rw [if_pos h.1.1, takeWhile_front t r h.1.2 hr]
    unfold nameC
    rw [hn, if_neg (by omega)]
    congr 1
    rw [show t.length + 1 = (c :: t).length from rfl, List.take_left, List.drop_left]
theorem nameC_some {l n r : Row} (h : nameC l = some (n, r)) : l = n ++ r ∧ nameB n = true := by
  unfold nameC at h
  split at h
  · cases h
  · rename_i h0
    have h := Option.some.inj h
    simp only [Prod.mk.injEq] at h
    obtain ⟨rfl, rfl⟩ := h
    refine ⟨(List.take_append_drop _ _).symm, ?_⟩
    cases l with
    | nil => simp [nlen] at h0
    | cons c t =>
      by_cases hc : ftB c = true
      · have hn : nlen (c :: t) = (t.takeWhile nxB).length + 1 := by show (if ftB c = true then _ else _) = _; rw [if_pos hc]
        rw [hn] at h0 ⊢
        rw [List.take_succ_cons]
        have e : t.take (t.takeWhile nxB).length = t.takeWhile nxB := (List.prefix_iff_eq_take.1 (List.takeWhile_prefix nxB)).symm
        rw [e]
        show (ftB c && (t.takeWhile nxB).all nxB && decide ((t.takeWhile nxB).length < 64)) = true
        rw [hc, List.all_takeWhile]
        simp only [Bool.true_and, decide_eq_true_eq]
        omega
      · simp [nlen, hc] at h0
theorem nameB_ne {n : Row} (h : nameB n = true) : n ≠ [] := fun e => by rw [e] at h; cases h
theorem nameB_head {c : UInt8} {n : Row} (h : nameB (c :: n) = true) : ftB c = true := by
  unfold nameB at h; simp only [Bool.and_eq_true] at h; exact h.1.1
theorem nameB_all {n : Row} (h : nameB n = true) : ∀ x ∈ n, nxB x = true := by
  cases n with
  | nil => cases h
  | cons c t =>
    simp only [nameB, Bool.and_eq_true, List.all_eq_true] at h
    intro x hx
    rcases List.mem_cons.1 hx with rfl | hx
    · exact ft_nx h.1.1
    · exact h.1.2 x hx

/-! ### a pattern found -/
/-- parted at the first p -/
def find (p : Row) : Row → Option (Row × Row)
  | [] => none
  | c :: r => if p.isPrefixOf (c :: r) = true then some ([], (c :: r).drop p.length) else (find p r).map fun q => (c :: q.1, q.2)
theorem pre1 {q c : UInt8} {r : Row} (h : q ≠ c) : ([q] : Row).isPrefixOf (c :: r) = false := by
  show (q == c && _) = false
  rw [beq_eq_false_iff_ne.2 h]; rfl
theorem pre2 {q m c : UInt8} {r : Row} (h : q ≠ c) : ([q, m] : Row).isPrefixOf (c :: r) = false := by
  show (q == c && _) = false
  rw [beq_eq_false_iff_ne.2 h]; rfl
theorem pre2' {q m c d : UInt8} {r : Row} (h : m ≠ d) : ([q, m] : Row).isPrefixOf (c :: d :: r) = false := by
  show (q == c && (m == d && _)) = false
  rw [beq_eq_false_iff_ne.2 h]; simp
theorem find_one {q : UInt8} : ∀ (a r : Row), q ∉ a → find [q] (a ++ q :: r) = some (a, r)
  | [], r, _ => by simp [find]
  | c :: a, r, h => by
    have h1 : q ≠ c := fun e => h (by simp [e])
    show find [q] (c :: (a ++ q :: r)) = _
    rw [find, if_neg (by rw [pre1 h1]; decide), find_one a r (fun hm => h (by simp [hm]))]; rfl
theorem find_some {p : Row} (hp : p ≠ []) : ∀ {l a r : Row}, find p l = some (a, r) → l = a ++ p ++ r
  | [], a, r, h => by simp [find] at h
  | c :: l, a, r, h => by
    rw [find] at h
    split at h
    · rename_i hpre
      have h := Option.some.inj h
      simp only [Prod.mk.injEq] at h
      obtain ⟨rfl, rfl⟩ := h
      obtain ⟨t, ht⟩ := List.isPrefixOf_iff_prefix.1 hpre
      rw [← ht]; simp
    · cases hf : find p l with
      | none => rw [hf] at h; cases h
      | some q =>
        rw [hf] at h
        have h := Option.some.inj h
        simp only [Prod.mk.injEq] at h
        obtain ⟨rfl, rfl⟩ := h
        have := find_some hp (l := l) (a := q.1) (r := q.2) hf
        rw [this]; simp
/-- two marks at the front of a text that has no two and ends with none -/
theorem find_two (m : UInt8) : ∀ (t r : Row), (∀ k, t.getD k 0 = m → t.getD (k + 1) 0 = m → t.length ≤ k + 1) → t.getLast? ≠ some m → find [m, m] (t ++ m :: m :: r) = some (t, r)
  | [], r, _, _ => by simp [find]
  | c :: t, r, h, hl => by
    have hne : ([m, m] : Row).isPrefixOf (c :: (t ++ m :: m :: r)) = false := by
      by_cases hc : m = c
      · cases t with
        | nil => exact absurd (by simp [hc]) hl
        | cons d t =>
          by_cases hd : m = d
          · have := h 0 (by simp [hc]) (by simp [hd])
            simp at this
          · exact pre2' hd
      · exact pre2 hc
    show find [m, m] (c :: (t ++ m :: m :: r)) = _
    rw [find, if_neg (by rw [hne]; decide), find_two m t r (fun k h1 h2 => by have := h (k + 1) (by simpa using h1) (by simpa using h2); simp at this; omega) (fun e => hl (by
      cases t with
      | nil => simp at e
      | cons d t => rw [List.getLast?_cons_cons]; exact e))]
    rfl

theorem pre3 {m x : UInt8} : ∀ {l : Row}, ([m, m] : Row).isPrefixOf l = false → ([m, m, x] : Row).isPrefixOf l = false
  | [], _ => rfl
  | [a], _ => by simp [List.isPrefixOf]
  | a :: b :: l, h => by
    simp only [List.isPrefixOf, Bool.and_true] at h ⊢
    cases h1 : (m == a) with
    | false => rfl
    | true =>
      rw [h1] at h
      simp only [Bool.true_and] at h
      rw [h]; rfl
/-- two marks and another at the front of a text that has no two and ends with none -/
theorem find_three (m x : UInt8) : ∀ (t r : Row), (∀ k, t.getD k 0 = m → t.getD (k + 1) 0 = m → t.length ≤ k + 1) → t.getLast? ≠ some m → find [m, m, x] (t ++ m :: m :: x :: r) = some (t, r)
  | [], r, _, _ => by simp [find]
  | c :: t, r, h, hl => by
    have hne : ([m, m] : Row).isPrefixOf (c :: (t ++ m :: m :: x :: r)) = false := by
      by_cases hc : m = c
      · cases t with
        | nil => exact absurd (by simp [hc]) hl
        | cons d t =>
          by_cases hd : m = d
          · have := h 0 (by simp [hc]) (by simp [hd])
            simp at this
          · exact pre2' hd
      · exact pre2 hc
    show find [m, m, x] (c :: (t ++ m :: m :: x :: r)) = _
    rw [find, if_neg (by rw [pre3 hne]; decide), find_three m x t r (fun k h1 h2 => by have := h (k + 1) (by simpa using h1) (by simpa using h2); simp at this; omega) (fun e => hl (by
      cases t with
      | nil => simp at e
      | cons d t => rw [List.getLast?_cons_cons]; exact e))]
    rfl
/-- no two marks -/
theorem find_two_none (m : UInt8) : ∀ (t : Row), (∀ k, t.getD k 0 = m → t.getD (k + 1) 0 = m → t.length ≤ k + 1) → find [m, m] t = none
  | [], _ => by simp [find]
  | c :: t, h => by
    have hne : ([m, m] : Row).isPrefixOf (c :: t) = false := by
      by_cases hc : m = c
      · cases t with
        | nil => simp [List.isPrefixOf]
        | cons d t =>
          by_cases hd : m = d
          · have := h 0 (by simp [hc]) (by simp [hd])
            simp at this
          · exact pre2' hd
      · exact pre2 hc
    rw [find, if_neg (by rw [hne]; decide), find_two_none m t (fun k h1 h2 => by have := h (k + 1) (by simpa using h1) (by simpa using h2); simp at this; omega)]
    rfl

/-! ### written names, declarations -/
/-- prefix, name, what is behind -/
def written (t : Row) : Option (Row × Row × Row) := (nameC t).bind fun p => match p.2 with
  | 58 :: u => (nameC u).map fun q => (p.1, q.1, q.2)
  | _ => some ([], p.1, p.2)
theorem written_bare (n r : Row) (h : nameB n = true) (hr : ∀ x, r.head? = some x → nxB x = false ∧ x ≠ 58) : written (n ++ r) = some ([], n, r) := by
  unfold written
  rw [nameC_front n r h (fun x hx => (hr x hx).1), Option.bind_some]
  cases r with
  | nil => rfl
  | cons x u =>
    have := (hr x rfl).2
    split
    · rename_i e; simp at e; exact absurd e.1 this
    · rfl
theorem nx_colon : nxB 58 = false := by decide
theorem written_pre (p n r : Row) (h : nameB p = true) (h' : nameB n = true) (hr : ∀ x, r.head? = some x → nxB x = false) : written (p ++ 58 :: (n ++ r)) = some (p, n, r) := by
  unfold written
  rw [nameC_front p (58 :: (n ++ r)) h (fun x hx => by simp at hx; rw [← hx]; exact nx_colon), Option.bind_some]
  show (nameC (n ++ r)).map _ = _
  rw [nameC_front n r h' hr]; rfl
def xmlnsS : Row := [120, 109, 108, 110, 115]
def davS : Row := [68, 65, 86, 58]
def cardS : Row := [117, 114, 110, 58, 105, 101, 116, 102, 58, 112, 97, 114, 97, 109, 115, 58, 120, 109, 108, 58, 110, 115, 58, 99, 97, 114, 100, 100, 97, 118]
def spaceOf (v : Row) : Int := if v = [] then 0 else if v = davS then 1 else if v = cardS then 2 else 3
/-- which prefix a written name declares -/
def declares (a b : Row) : Option Row := if a = [] ∧ b = xmlnsS then some [] else if a = xmlnsS then some b else none
/-- a value between two signs -/
def quoted : Row → Option (Row × Row)
  | 61 :: q :: u => if q = 34 ∨ q = 39 then (find [q] u).bind fun p => if (60 : UInt8) ∈ p.1 then none else some p else none
  | _ => none
/-- a declaration: the prefix, the space, what is behind -/
def decl (t : Row) : Option (Row × Int × Row) := (written t).bind fun w => (declares w.1 w.2.1).bind fun pre => (quoted w.2.2).map fun p => (pre, spaceOf p.1, p.2)
theorem find_len {p : Row} (hp : p ≠ []) {l a r : Row} (h : find p l = some (a, r)) : r.length < l.length := by
  have := find_some hp h
  have h2 : 1 ≤ p.length := List.length_pos_iff.2 hp
  rw [this]; simp; omega
theorem nameC_len {l n r : Row} (h : nameC l = some (n, r)) : r.length < l.length := by
  obtain ⟨e, hn⟩ := nameC_some h
  have := List.length_pos_iff.2 (nameB_ne hn)
  rw [e, List.length_append]; omega
theorem written_len {l a b r : Row} (h : written l = some (a, b, r)) : r.length < l.length := by
  unfold written at h
  cases hn : nameC l with
  | none => rw [hn] at h; cases h
  | some p =>
    obtain ⟨n, u⟩ := p
    have := nameC_len hn
    rw [hn, Option.bind_some] at h
    simp only at h
    split at h
    · rename_i v
      cases hm : nameC v with
      | none => rw [hm] at h; cases h
      | some q =>
        obtain ⟨m, z⟩ := q
        have h2 := nameC_len hm
        rw [hm] at h
        simp at h
        obtain ⟨_, _, rfl⟩ := h
        simp at this
        omega
    · simp at h
      obtain ⟨_, _, rfl⟩ := h
      exact this
theorem quoted_len {l a r : Row} (h : quoted l = some (a, r)) : r.length < l.length := by
  unfold quoted at h
  split at h
  · rename_i q u
    split at h
    · cases hf : find [q] u with
      | none => rw [hf] at h; cases h
      | some p =>
        obtain ⟨v, w⟩ := p
        have := find_len (by simp) hf
        rw [hf, Option.bind_some] at h
        split at h
        · cases h
        · simp at h
          obtain ⟨_, rfl⟩ := h
          simp; omega
    · cases h
  · cases h
theorem decl_len {t pre r : Row} {s : Int} (h : decl t = some (pre, s, r)) : r.length < t.length := by
  unfold decl at h
  cases hw : written t with
  | none => rw [hw] at h; cases h
  | some w =>
    obtain ⟨a, b, u⟩ := w
    have := written_len hw
    rw [hw, Option.bind_some] at h
    cases hd : declares a b with
    | none => rw [hd] at h; cases h
    | some p =>
      rw [hd, Option.bind_some] at h
      cases hq : quoted u with
      | none => rw [hq] at h; cases h
      | some q =>
        obtain ⟨v, z⟩ := q
        have h2 := quoted_len hq
        rw [hq] at h
        simp at h
        obtain ⟨_, _, rfl⟩ := h
        omega
abbrev Env := List (Row × Int)
def look (p : Row) : Env → Option Int
  | [] => none
  | d :: e => if d.1 = p then some d.2 else look p e
/-- do an element's declarations go on -/
def more (t : Row) : Bool := match t with
  | [] => false
  | c :: r => blk c && (match r.dropWhile blk with
    | 47 :: _ => false
    | 62 :: _ => false
    | _ => true)
/-- an element's declarations: its own so far, what is behind -/
def decls : Nat → Row → Env → Option (Row × Env)
  | 0, _, _ => none
  | n + 1, t, own => if more t = true then (decl (t.dropWhile blk)).bind fun d => if (look d.1 own).isSome = true then none else decls n d.2.2 ((d.1, d.2.1) :: own) else some (t.dropWhile blk, own)
theorem dropWhile_len (p : UInt8 → Bool) (t : Row) : (t.dropWhile p).length ≤ t.length := (List.dropWhile_sublist p).length_le
theorem decls_fuel : ∀ (n m : Nat) (t : Row) (own : Env), t.length < n → t.length < m → decls n t own = decls m t own
  | 0, _, _, _, h, _ => by omega
  | _ + 1, 0, _, _, _, h => by omega
  | n + 1, m + 1, t, own, h1, h2 => by
    unfold decls
    split
    · cases hd : decl (t.dropWhile blk) with
      | none => rfl
      | some d =>
        obtain ⟨pre, s, r⟩ := d
        have := decl_len hd
        have h3 := dropWhile_len blk t
        simp only [Option.bind_some]
        split
        · rfl
        · exact decls_fuel n m _ _ (by omega) (by omega)
    · rfl
def declsA (t : Row) (own : Env) : Option (Row × Env) := decls (t.length + 1) t own
theorem declsA_more {t : Row} {own : Env} (h : more t = true) : declsA t own = (decl (t.dropWhile blk)).bind fun d => if (look d.1 own).isSome = true then none else declsA d.2.2 ((d.1, d.2.1) :: own) := by
  unfold declsA
  conv => lhs; unfold decls
  rw [if_pos h]
  cases hd : decl (t.dropWhile blk) with
  | none => rfl
  | some d =>
    obtain ⟨pre, s, r⟩ := d
    have := decl_len hd
    have h3 := dropWhile_len blk t
    simp only [Option.bind_some]
    split
    · rfl
    · exact decls_fuel _ _ _ _ (by omega) (by omega)
theorem declsA_end {t : Row} {own : Env} (h : more t = false) : declsA t own = some (t.dropWhile blk, own) := by
  unfold declsA
  unfold decls
  rw [if_neg (by rw [h]; decide)]
theorem decls_len : ∀ (n : Nat) {t u : Row} {own e : Env}, decls n t own = some (u, e) → u.length ≤ t.length
  | 0, _, _, _, _, h => by cases h
  | n + 1, t, u, own, e, h => by
    have h3 := dropWhile_len blk t
    unfold decls at h
    split at h
    · cases hd : decl (t.dropWhile blk) with
      | none => rw [hd] at h; cases h
      | some d =>
        obtain ⟨pre, s, r⟩ := d
        have := decl_len hd
        rw [hd, Option.bind_some] at h
        split at h
        · cases h
        · have := decls_len n h
          simp only at this
          omega
    · simp at h
      obtain ⟨rfl, _⟩ := h
      exact h3

/-! ### characters told by names and numbers -/
def digV (b : Nat) (c : UInt8) : Option Nat :=
  let d := if 48 ≤ c.toNat ∧ c.toNat ≤ 57 then c.toNat - 48 else if 97 ≤ c.toNat ∧ c.toNat ≤ 102 then c.toNat - 97 + 10 else if 65 ≤ c.toNat ∧ c.toNat ≤ 70 then c.toNat - 65 + 10 else 99
  if d < b then some d else none
/-- the number of a row of digits -/
def digN (b : Nat) : Nat → Row → Option Nat
  | n, [] => some n
  | n, c :: r => (digV b c).bind fun d => digN b (n * b + d) r
/-- the bytes of a code point -/
def utf (n : Nat) : Row :=
  if n < 128 then [UInt8.ofNat n] else if n < 2048 then [UInt8.ofNat (192 + n / 64), UInt8.ofNat (128 + n % 64)] else if n < 65536 then [UInt8.ofNat (224 + n / 4096), UInt8.ofNat (128 + n / 64 % 64), UInt8.ofNat (128 + n % 64)] else [UInt8.ofNat (240 + n / 262144), UInt8.ofNat (128 + n / 4096 % 64), UInt8.ofNat (128 + n / 64 % 64), UInt8.ofNat (128 + n % 64)]
def numE (b : Nat) (d : Row) : Option Row := if d = [] ∨ (b = 10 ∧ 1 < d.length ∧ d.head? = some 48) then none else (digN b 0 d).bind fun n => if n ≤ 1114111 ∧ Ch.valid (utf n) = true then some (utf n) else none
/-- what stands between & and ; -/
def ent (s : Row) : Option Row :=
  if s = [97, 109, 112] then some [38] else if s = [108, 116] then some [60] else if s = [103, 116] then some [62] else if s = [113, 117, 111, 116] then some [34] else if s = [97, 112, 111, 115] then some [39] else match s with
  | 35 :: 120 :: d => numE 16 d
  | 35 :: d => numE 10 d
  | _ => none

/-! ### a document step by step -/
structure Pc where
  kind : Int
  space : Int
  name : Row
  text : Row
deriving DecidableEq
/-- what is open: prefix, name, space, what was declared around it -/
structure El where
  pre : Row
  name : Row
  space : Int
  env : Env
structure St where
  rest : Row
  stack : List El
  env : Env
  pcs : List Pc
  txt : Row
  had : Bool
def remarkS : Row := [60, 33, 45, 45]
/-- behind a remark's beginning: what is behind it -/
def remark (t : Row) : Option Row := (find [45, 45, 62] t).bind fun p => if (find [45, 45] p.1).isSome = true then none else some p.2
def flushed (pcs : List Pc) (txt : Row) : List Pc := if blanks txt = true then pcs else pcs ++ [⟨3, 0, [], txt⟩]
/-- a name's space -/
def spOf (p : Row) (e : Env) : Option Int := if p = [] then some ((look p e).getD 0) else look p e
/-- behind an element's < -/
def opens (σ : St) (t : Row) : Option St :=
  if 16 ≤ σ.stack.length then none else (written t).bind fun w => (declsA w.2.2 []).bind fun d => (spOf w.1 (d.2 ++ σ.env)).bind fun sp => match d.1 with
  | 47 :: 62 :: v => some { σ with rest := v, pcs := flushed σ.pcs σ.txt ++ [⟨1, sp, w.2.1, []⟩, ⟨2, sp, w.2.1, []⟩], txt := [], had := true }
  | 62 :: v => some { σ with rest := v, stack := ⟨w.1, w.2.1, sp, σ.env⟩ :: σ.stack, env := d.2 ++ σ.env, pcs := flushed σ.pcs σ.txt ++ [⟨1, sp, w.2.1, []⟩], txt := [], had := true }
  | _ => none
/-- behind </ -/
def closes (σ : St) (t : Row) : Option St := match σ.stack with
  | [] => none
  | e :: st => (written t).bind fun w => match w.2.2.dropWhile blk with
    | 62 :: v => if w.1 = e.pre ∧ w.2.1 = e.name then some { σ with rest := v, stack := st, env := e.env, pcs := flushed σ.pcs σ.txt ++ [⟨2, e.space, e.name, []⟩], txt := [] } else none
    | _ => none
def step (σ : St) : Option St := match σ.rest with
  | [] => none
  | c :: t =>
    if c = 60 then
      match t with
      | 33 :: 45 :: 45 :: u => (remark u).map fun v => { σ with rest := v }
      | 47 :: u => closes σ u
      | _ => if σ.stack = [] ∧ σ.had = true then none else opens σ t
    else match σ.stack with
      | [] => if blk c = true then some { σ with rest := t } else none
      | _ :: _ => if c = 38 then (find [59] t).bind fun p => (ent p.1).map fun x => { σ with rest := p.2, txt := σ.txt ++ x } else some { σ with rest := t, txt := σ.txt ++ [c] }
end Go.Proofs.YtjeagjleolmibaaGreatDoor.Xm

/-
  PLAIN LAWS OF LAYER xml: the steps brought together ('go'), what a whole text is read as ('docP', 'parseX'), and a document's parts read one by one ('Runs').
-/
set_option linter.unusedVariables false
namespace Go.Proofs.YtjeagjleolmibaaGreatDoor.Xm

theorem remark_len {t v : Row} (h : remark t = some v) : v.length < t.length := by
  unfold remark at h
  cases hf : find [45, 45, 62] t with
  | none => rw [hf] at h; cases h
  | some p =>
    obtain ⟨a, r⟩ := p
    have := find_len (by simp) hf
    rw [hf, Option.bind_some] at h
    split at h
    · cases h
    · simp at h
      subst h
      omega
theorem opens_len {σ σ' : St} {t : Row} (h : opens σ t = some σ') : σ'.rest.length < t.length := by
  unfold opens at h
  split at h
  · cases h
  · cases hw : written t with
    | none => rw [hw] at h; cases h
    | some w =>
      obtain ⟨a, b, r⟩ := w
      have h1 := written_len hw
      rw [hw, Option.bind_some] at h
      cases hd : declsA r [] with
      | none => simp only [hd] at h; cases h
      | some d =>
        obtain ⟨u, own⟩ := d
        have h2 := decls_len _ hd
        simp only [hd, Option.bind_some] at h
        cases hs : spOf a (own ++ σ.env) with
        | none => rw [hs] at h; cases h
        | some sp =>
          rw [hs, Option.bind_some] at h
          split at h
          · simp at h; subst h; simp only [List.length_cons] at h2 ⊢; omega
          · simp at h; subst h; simp only [List.length_cons] at h2 ⊢; omega
          · cases h
theorem closes_len {σ σ' : St} {t : Row} (h : closes σ t = some σ') : σ'.rest.length < t.length := by
  unfold closes at h
  split at h
  · cases h
  · cases hw : written t with
    | none => rw [hw] at h; cases h
    | some w =>
      obtain ⟨a, b, r⟩ := w
      have h1 := written_len hw
      have h2 := dropWhile_len blk r
      rw [hw, Option.bind_some] at h
      simp only at h
      split at h
      · rename_i v e
        rw [e, List.length_cons] at h2
        split at h
        · simp at h; subst h; simp only; omega
        · cases h
      · cases h
theorem step_len {σ σ' : St} (h : step σ = some σ') : σ'.rest.length < σ.rest.length := by
  unfold step at h
  split at h
  · cases h
  · rename_i c t e
    rw [e]
    split at h
    · split at h
      · rename_i u
        cases hr : remark u with
        | none => rw [hr] at h; cases h
        | some v =>
          have := remark_len hr
          rw [hr] at h; simp at h; subst h
          simp only [List.length_cons]; omega
      · have := closes_len h
        simp only [List.length_cons]; omega
      · split at h
        · cases h
        · have := opens_len h
          simp only [List.length_cons]; omega
    · split at h
      · split at h
        · simp at h; subst h; simp
        · cases h
      · split at h
        · cases hf : find [59] t with
          | none => rw [hf] at h; cases h
          | some p =>
            obtain ⟨a, r⟩ := p
            have := find_len (by simp) hf
            rw [hf, Option.bind_some] at h
            cases he : ent a with
            | none => simp only [he] at h; cases h
            | some x =>
              simp only [he] at h; simp at h; subst h
              simp only [List.length_cons]; omega
        · simp at h; subst h; simp
def run : Nat → St → Option St
  | 0, σ => some σ
  | n + 1, σ => if σ.rest = [] then some σ else (step σ).bind (run n)
theorem run_fuel : ∀ (n m : Nat) (σ : St), σ.rest.length ≤ n → σ.rest.length ≤ m → run n σ = run m σ
  | 0, 0, σ, _, _ => rfl
  | 0, m + 1, σ, h, _ => by
    have : σ.rest = [] := List.eq_nil_of_length_eq_zero (by omega)
    unfold run; rw [if_pos this]
  | n + 1, 0, σ, _, h => by
    have : σ.rest = [] := List.eq_nil_of_length_eq_zero (by omega)
    unfold run; rw [if_pos this]
  | n + 1, m + 1, σ, h1, h2 => by
    unfold run
    split
    · rfl
    · cases hs : step σ with
      | none => rfl
      | some τ =>
        have := step_len hs
        simp only [Option.bind_some]
        exact run_fuel n m τ (by omega) (by omega)
/-- read to the end -/
def go (σ : St) : Option St := run σ.rest.length σ
theorem go_nil {σ : St} (h : σ.rest = []) : go σ = some σ := by unfold go; rw [h]; rfl
theorem go_step {σ : St} (h : σ.rest ≠ []) : go σ = (step σ).bind go := by
  unfold go
  cases hn : σ.rest.length with
  | zero => exact absurd (List.eq_nil_of_length_eq_zero hn) h
  | succ n =>
    show (if σ.rest = [] then some σ else (step σ).bind (run n)) = _
    rw [if_neg h]
    cases hs : step σ with
    | none => rfl
    | some τ =>
      have := step_len hs
      simp only [Option.bind_some]
      exact run_fuel n τ.rest.length τ (by omega) (Nat.le_refl _)
theorem go_some {σ τ : St} (h : step σ = some τ) : go σ = go τ := by
  rw [go_step, h, Option.bind_some]
  intro e
  unfold step at h
  rw [e] at h; cases h
theorem go_none {σ : St} (h0 : σ.rest ≠ []) (h : step σ = none) : go σ = none := by rw [go_step h0, h]; rfl
def init (s : Row) : St := ⟨s, [], [], [], [], false⟩
def xmlS : Row := [60, 63, 120, 109, 108]
def prolog (s : Row) : Option Row := if xmlS.isPrefixOf s = true then (find [63, 62] (s.drop 5)).map fun p => p.2 else some s
/-- a document's pieces -/
def fin (σ : St) : Option (List Pc) := if σ.had = true ∧ σ.stack = [] then some σ.pcs else none
def docP (s : Row) : Option (List Pc) := (prolog s).bind fun r => (go (init r)).bind fin
/-- what Parse answers -/
def parseX (s : Row) : List Pc × Int := if 65536 < s.length then ([], 11) else if Ch.valid s = false then ([], 10) else match docP s with
  | none => ([], 70)
  | some ps => (ps, 0)

/-! ### parts -/
def St.at (σ : St) (r : Row) : St := { σ with rest := r }
/-- a part that leads from one state to another, whatever is behind it -/
def Runs (σ : St) (a : Row) (σ' : St) : Prop := ∀ X, go (σ.at (a ++ X)) = go (σ'.at X)
theorem Runs.nil (σ : St) : Runs σ [] σ := fun X => rfl
theorem Runs.trans {σ τ υ : St} {a b : Row} (h : Runs σ a τ) (k : Runs τ b υ) : Runs σ (a ++ b) υ := fun X => by
  rw [List.append_assoc, h, k]
theorem runs_step {σ τ : St} {a : Row} (h : ∀ X, step (σ.at (a ++ X)) = some (τ.at X)) : Runs σ a τ := fun X => go_some (h X)

theorem step_chr {σ : St} {c : UInt8} {t : Row} (hr : σ.rest = c :: t) (h1 : c ≠ 60) (h2 : c ≠ 38) (hs : σ.stack ≠ []) : step σ = some { σ with rest := t, txt := σ.txt ++ [c] } := by
  unfold step
  rw [hr]
  simp only
  rw [if_neg h1]
  split
  · exact absurd (by assumption) hs
  · rw [if_neg h2]
theorem step_ent {σ : St} {t : Row} (hr : σ.rest = 38 :: t) (hs : σ.stack ≠ []) : step σ = (find [59] t).bind fun p => (ent p.1).map fun x => { σ with rest := p.2, txt := σ.txt ++ x } := by
  unfold step
  rw [hr]
  simp only
  rw [if_neg (by decide)]
  split
  · exact absurd (by assumption) hs
  · rw [if_pos trivial]
theorem step_out {σ : St} {c : UInt8} {t : Row} (hr : σ.rest = c :: t) (h1 : c ≠ 60) (hs : σ.stack = []) : step σ = if blk c = true then some { σ with rest := t } else none := by
  unfold step
  rw [hr]
  simp only
  rw [if_neg h1]
  split
  · rfl
  · rename_i e; rw [hs] at e; cases e
theorem step_end {σ : St} {t : Row} (hr : σ.rest = 60 :: 47 :: t) : step σ = closes σ t := by
  unfold step
  rw [hr]
  rfl
theorem step_remark {σ : St} {t : Row} (hr : σ.rest = 60 :: 33 :: 45 :: 45 :: t) : step σ = (remark t).map fun v => { σ with rest := v } := by
  unfold step
  rw [hr]
  rfl
/-- a remark -/
theorem runs_remark (σ : St) (t : Row) (h : ∀ k, t.getD k 0 = 45 → t.getD (k + 1) 0 = 45 → t.length ≤ k + 1) (hl : t.getLast? ≠ some 45) : Runs σ (remarkS ++ t ++ [45, 45, 62]) σ := runs_step fun X => by
  have e : remarkS ++ t ++ [45, 45, 62] ++ X = 60 :: 33 :: 45 :: 45 :: (t ++ 45 :: 45 :: 62 :: X) := by simp [remarkS]
  rw [e, step_remark (σ := σ.at (60 :: 33 :: 45 :: 45 :: (t ++ 45 :: 45 :: 62 :: X))) rfl]
  unfold remark
  rw [find_three 45 62 t X h hl, Option.bind_some, find_two_none 45 t h]; rfl
/-- a byte of characters -/
theorem runs_byte (σ : St) (c : UInt8) (h1 : c ≠ 60) (h2 : c ≠ 38) (hs : σ.stack ≠ []) : Runs σ [c] { σ with txt := σ.txt ++ [c] } := runs_step fun X => step_chr (σ := σ.at (c :: X)) rfl h1 h2 hs
/-- a character told -/
theorem runs_ent (σ : St) (s x : Row) (h1 : (59 : UInt8) ∉ s) (h2 : ent s = some x) (hs : σ.stack ≠ []) : Runs σ (38 :: (s ++ [59])) { σ with txt := σ.txt ++ x } := runs_step fun X => by
  have e1 : (38 :: (s ++ [59])) ++ X = 38 :: (s ++ 59 :: X) := by simp
  rw [e1, step_ent (σ := σ.at (38 :: (s ++ 59 :: X))) rfl hs, find_one s X h1, Option.bind_some]
  show (ent s).map _ = _
  rw [h2]; rfl
theorem ft_ne {c : UInt8} (h : ftB c = true) : c ≠ 33 ∧ c ≠ 47 ∧ c ≠ 63 := by
  unfold ftB at h
  have := of_decide_eq_true h
  refine ⟨?_, ?_, ?_⟩ <;> (intro e; subst e; revert this; decide)
theorem step_open {σ : St} {c : UInt8} {t : Row} (hc : ftB c = true) (hr : σ.rest = 60 :: c :: t) (h0 : σ.stack = [] → σ.had = false) : step σ = opens σ (c :: t) := by
  obtain ⟨h1, h2, _⟩ := ft_ne hc
  unfold step
  rw [hr]
  simp only
  rw [if_pos trivial]
  split
  · rename_i e; simp at e; exact absurd e.1 h1
  · rename_i e; simp at e; exact absurd e.1 h2
  · rw [if_neg (fun q => by rw [h0 q.1] at q; cases q.2)]
/-- an element's beginning -/
theorem runs_open (σ : St) (c : UInt8) (a d p n : Row) (own : Env) (sp : Int) (hc : ftB c = true) (hw : ∀ X, written (c :: (a ++ d ++ 62 :: X)) = some (p, n, d ++ 62 :: X)) (hd : ∀ X, declsA (d ++ 62 :: X) [] = some (62 :: X, own))
    (hsp : spOf p (own ++ σ.env) = some sp) (hk : σ.stack.length < 16) (h0 : σ.stack = [] → σ.had = false) :
    Runs σ (60 :: c :: (a ++ d ++ [62])) { σ with stack := ⟨p, n, sp, σ.env⟩ :: σ.stack, env := own ++ σ.env, pcs := flushed σ.pcs σ.txt ++ [⟨1, sp, n, []⟩], txt := [], had := true } := runs_step fun X => by
  have e1 : (60 :: c :: (a ++ d ++ [62])) ++ X = 60 :: c :: (a ++ d ++ 62 :: X) := by simp
  rw [e1, step_open (σ := σ.at (60 :: c :: (a ++ d ++ 62 :: X))) hc rfl h0]
  unfold opens
  rw [if_neg (by show ¬ 16 ≤ σ.stack.length; omega), hw X, Option.bind_some]
  simp only
  rw [hd X, Option.bind_some]
  show (spOf p (own ++ σ.env)).bind _ = _
  rw [hsp]; rfl
/-- an element without content -/
theorem runs_both (σ : St) (c : UInt8) (a d p n : Row) (own : Env) (sp : Int) (hc : ftB c = true) (hw : ∀ X, written (c :: (a ++ d ++ 47 :: 62 :: X)) = some (p, n, d ++ 47 :: 62 :: X)) (hd : ∀ X, declsA (d ++ 47 :: 62 :: X) [] = some (47 :: 62 :: X, own))
    (hsp : spOf p (own ++ σ.env) = some sp) (hk : σ.stack.length < 16) (h0 : σ.stack = [] → σ.had = false) :
    Runs σ (60 :: c :: (a ++ d ++ [47, 62])) { σ with pcs := flushed σ.pcs σ.txt ++ [⟨1, sp, n, []⟩, ⟨2, sp, n, []⟩], txt := [], had := true } := runs_step fun X => by
  have e1 : (60 :: c :: (a ++ d ++ [47, 62])) ++ X = 60 :: c :: (a ++ d ++ 47 :: 62 :: X) := by simp
  rw [e1, step_open (σ := σ.at (60 :: c :: (a ++ d ++ 47 :: 62 :: X))) hc rfl h0]
  unfold opens
  rw [if_neg (by show ¬ 16 ≤ σ.stack.length; omega), hw X, Option.bind_some]
  simp only
  rw [hd X, Option.bind_some]
  show (spOf p (own ++ σ.env)).bind _ = _
  rw [hsp]; rfl
/-- an element's end -/
theorem runs_close (σ : St) (a p n : Row) (e : El) (st : List El) (hs : σ.stack = e :: st) (hw : ∀ X, written (a ++ 62 :: X) = some (p, n, 62 :: X)) (hp : p = e.pre) (hn : n = e.name) :
    Runs σ (60 :: 47 :: (a ++ [62])) { σ with stack := st, env := e.env, pcs := flushed σ.pcs σ.txt ++ [⟨2, e.space, e.name, []⟩], txt := [] } := runs_step fun X => by
  have e1 : (60 :: 47 :: (a ++ [62])) ++ X = 60 :: 47 :: (a ++ 62 :: X) := by simp
  rw [e1, step_end (σ := σ.at (60 :: 47 :: (a ++ 62 :: X))) rfl]
  unfold closes
  show (match σ.stack with | [] => _ | e :: st => _) = _
  rw [hs]
  simp only
  rw [hw X, Option.bind_some]
  simp only
  rw [show List.dropWhile blk (62 :: X) = 62 :: X from rfl]
  simp only
  rw [if_pos ⟨hp, hn⟩]
  rfl
/-- blanks -/
theorem runs_blank (σ : St) (c : UInt8) (h : blk c = true) (hs : σ.stack = []) : Runs σ [c] σ := runs_step fun X => by
  have h1 : c ≠ 60 := fun e => by rw [e] at h; revert h; decide
  show step (σ.at (c :: X)) = _
  rw [step_out (σ := σ.at (c :: X)) rfl h1 hs, if_pos h]; rfl
end Go.Proofs.YtjeagjleolmibaaGreatDoor.Xm

/-
  PLAIN LAWS OF LAYER xml: pieces that are a document's ('rgt'), how they are printed ('chunks', 'prX'), and that what is printed is read as itself, part by part.
-/
set_option linter.unusedVariables false
namespace Go.Proofs.YtjeagjleolmibaaGreatDoor.Xm

/-! ### which pieces -/
def okTag (p : Pc) : Bool := p.text.isEmpty && decide (0 ≤ p.space ∧ p.space ≤ 2) && nameB p.name
def okTxt (p : Pc) : Bool := p.name.isEmpty && decide (p.space = 0) && (Ch.valid p.text && !blanks p.text)
/-- are pieces a document's? f: is the first one to come; c: was the last one characters; st: what is open -/
def rgt : Bool → Bool → List (Row × Int) → List Pc → Bool
  | f, _, st, [] => !f && st.isEmpty
  | f, c, st, p :: r => (f || !st.isEmpty) && (if p.kind = 1 then okTag p && decide (st.length < 16) && rgt false false ((p.name, p.space) :: st) r
    else if p.kind = 2 then okTag p && (match st with
      | [] => false
      | e :: s => decide (e = (p.name, p.space)) && rgt false false s r)
    else if p.kind = 3 then !f && !c && okTxt p && rgt false true st r else false)
def right (ps : List Pc) : Bool := rgt true false [] ps

/-! ### how they are printed -/
def preS (sp : Int) : Row := if sp = 1 then [68] else if sp = 2 then [67] else []
def nm (p : Pc) : Row := if p.space = 1 then 68 :: 58 :: p.name else if p.space = 2 then 67 :: 58 :: p.name else p.name
def declS : Row := 32 :: (xmlnsS ++ 58 :: ([68] ++ 61 :: 34 :: (davS ++ 34 :: (32 :: (xmlnsS ++ 58 :: ([67] ++ 61 :: 34 :: (cardS ++ [34])))))))
def esc (c : UInt8) : Row := if c = 38 then [38, 97, 109, 112, 59] else if c = 60 then [38, 108, 116, 59] else if c = 62 then [38, 103, 116, 59] else if c = 13 then [38, 35, 49, 51, 59] else [c]
def escT (t : Row) : Row := t.flatMap esc
def nextC (r : List Pc) : Bool := match r with
  | [] => false
  | q :: _ => decide (q.kind = 2)
/-- what one piece adds; f: is it the first; o: was the one ahead an element's beginning; r: what comes -/
def chunk (f o : Bool) (p : Pc) (r : List Pc) : Row :=
  (if p.kind = 1 then 60 :: (nm p ++ (if f = true then declS else []) ++ (if nextC r = true then [47, 62] else [62])) else []) ++ ((if p.kind = 2 ∧ o = false then 60 :: 47 :: (nm p ++ [62]) else []) ++ escT p.text)
def chunks : Bool → Bool → List Pc → List Row
  | _, _, [] => []
  | f, o, p :: r => chunk f o p r :: chunks false (decide (p.kind = 1)) r
def prX (ps : List Pc) : Row := (chunks true false ps).flatten

/-! ### declarations and characters read -/
theorem decls_pre (p v r : Row) (q : UInt8) (own : Env) (hp : nameB p = true) (hq : q = 34 ∨ q = 39) (hv : q ∉ v) (h60 : (60 : UInt8) ∉ v) (hl : look p own = none) :
    declsA (32 :: (xmlnsS ++ 58 :: (p ++ 61 :: q :: (v ++ q :: r)))) own = declsA r ((p, spaceOf v) :: own) := by
  rw [declsA_more rfl]
  show (decl (xmlnsS ++ 58 :: (p ++ 61 :: q :: (v ++ q :: r)))).bind _ = _
  unfold decl
  rw [written_pre xmlnsS p _ (by decide) hp (fun x hx => by simp at hx; rw [← hx]; decide), Option.bind_some]
  show ((declares xmlnsS p).bind fun pre => (quoted (61 :: q :: (v ++ q :: r))).map _).bind _ = _
  unfold declares
  rw [if_neg (fun e => by cases e.1), if_pos rfl, Option.bind_some]
  show ((if q = 34 ∨ q = 39 then _ else _ : Option (Row × Row)).map _).bind _ = _
  rw [if_pos hq, find_one v r hv, Option.bind_some]
  simp only
  rw [if_neg h60]
  show (if (look p own).isSome = true then none else _) = _
  rw [hl, if_neg (by decide)]
theorem decls_bare (v r : Row) (q : UInt8) (own : Env) (hq : q = 34 ∨ q = 39) (hv : q ∉ v) (h60 : (60 : UInt8) ∉ v) (hl : look [] own = none) :
    declsA (32 :: (xmlnsS ++ 61 :: q :: (v ++ q :: r))) own = declsA r (([], spaceOf v) :: own) := by
  rw [declsA_more rfl]
  show (decl (xmlnsS ++ 61 :: q :: (v ++ q :: r))).bind _ = _
  unfold decl
  rw [written_bare xmlnsS _ (by decide) (fun x hx => by simp at hx; rw [← hx]; decide), Option.bind_some]
  show ((declares [] xmlnsS).bind fun pre => (quoted (61 :: q :: (v ++ q :: r))).map _).bind _ = _
  unfold declares
  rw [if_pos ⟨rfl, rfl⟩, Option.bind_some]
  show ((if q = 34 ∨ q = 39 then _ else _ : Option (Row × Row)).map _).bind _ = _
  rw [if_pos hq, find_one v r hv, Option.bind_some]
  simp only
  rw [if_neg h60]
  show (if (look [] own).isSome = true then none else _) = _
  rw [hl, if_neg (by decide)]
def envD : Env := [([67], 2), ([68], 1)]
theorem decls_doc (r : Row) (h : more r = false) (hb : r.dropWhile blk = r) : declsA (declS ++ r) [] = some (r, envD) := by
  have e : declS ++ r = 32 :: (xmlnsS ++ 58 :: ([68] ++ 61 :: 34 :: (davS ++ 34 :: (32 :: (xmlnsS ++ 58 :: ([67] ++ 61 :: 34 :: (cardS ++ 34 :: r))))))) := by simp [declS, xmlnsS, davS, cardS]
  rw [e, decls_pre [68] davS _ 34 [] (by decide) (.inl rfl) (by decide) (by decide) rfl, decls_pre [67] cardS _ 34 _ (by decide) (.inl rfl) (by decide) (by decide) rfl, declsA_end h, hb]
  rfl
theorem decls_none (c : UInt8) (X : Row) (h : blk c = false) : declsA (c :: X) [] = some (c :: X, []) := by
  rw [declsA_end (by show (blk c && _) = false; rw [h]; rfl)]
  simp [h]
theorem runs_esc (σ : St) (c : UInt8) (hs : σ.stack ≠ []) : Runs σ (esc c) { σ with txt := σ.txt ++ [c] } := by
  unfold esc
  by_cases h1 : c = 38
  · rw [if_pos h1, h1]; exact runs_ent σ [97, 109, 112] [38] (by decide) rfl hs
  · rw [if_neg h1]
    by_cases h2 : c = 60
    · rw [if_pos h2, h2]; exact runs_ent σ [108, 116] [60] (by decide) rfl hs
    · rw [if_neg h2]
      by_cases h3 : c = 62
      · rw [if_pos h3, h3]; exact runs_ent σ [103, 116] [62] (by decide) rfl hs
      · rw [if_neg h3]
        by_cases h4 : c = 13
        · rw [if_pos h4, h4]; exact runs_ent σ [35, 49, 51] [13] (by decide) (by decide +kernel) hs
        · rw [if_neg h4]; exact runs_byte σ c h2 h1 hs
theorem runs_escT : ∀ (t : Row) (σ : St), σ.stack ≠ [] → Runs σ (escT t) { σ with txt := σ.txt ++ t }
  | [], σ, _ => by simpa [escT] using Runs.nil σ
  | c :: t, σ, hs => by
    have h1 := runs_esc σ c hs
    have h2 := runs_escT t { σ with txt := σ.txt ++ [c] } hs
    have := h1.trans h2
    have e : esc c ++ escT t = escT (c :: t) := by simp [escT]
    rw [e] at this
    simpa using this
theorem flushed_nil (ps : List Pc) : flushed ps [] = ps := by exact if_pos rfl
theorem written_nm (p : Pc) (r : Row) (hn : nameB p.name = true) (hr : ∀ x, r.head? = some x → nxB x = false ∧ x ≠ 58) : written (nm p ++ r) = some (preS p.space, p.name, r) := by
  unfold nm preS
  by_cases h1 : p.space = 1
  · rw [if_pos h1, if_pos h1]
    exact written_pre [68] p.name r (by decide) hn (fun x hx => (hr x hx).1)
  · rw [if_neg h1, if_neg h1]
    by_cases h2 : p.space = 2
    · rw [if_pos h2, if_pos h2]
      exact written_pre [67] p.name r (by decide) hn (fun x hx => (hr x hx).1)
    · rw [if_neg h2, if_neg h2]
      exact written_bare p.name r hn hr
theorem nm_head (p : Pc) (hn : nameB p.name = true) : ∃ c t, nm p = c :: t ∧ ftB c = true := by
  unfold nm
  by_cases h1 : p.space = 1
  · rw [if_pos h1]; exact ⟨_, _, rfl, by decide⟩
  · rw [if_neg h1]
    by_cases h2 : p.space = 2
    · rw [if_pos h2]; exact ⟨_, _, rfl, by decide⟩
    · rw [if_neg h2]
      cases hp : p.name with
      | nil => rw [hp] at hn; cases hn
      | cons c t => rw [hp] at hn; exact ⟨c, t, rfl, nameB_head hn⟩
theorem sp_envD {sp : Int} (h : 0 ≤ sp ∧ sp ≤ 2) : spOf (preS sp) envD = some sp := by
  have : sp = 0 ∨ sp = 1 ∨ sp = 2 := by omega
  rcases this with rfl | rfl | rfl <;> decide

/-! ### piece by piece -/
structure Inv (f c : Bool) (st : List (Row × Int)) (σ : St) : Prop where
  stk : σ.stack.map (fun e => (e.name, e.space)) = st
  pre : ∀ e ∈ σ.stack, e.pre = preS e.space
  env : σ.stack ≠ [] → σ.env = envD
  envs : ∀ e ∈ σ.stack.dropLast, e.env = envD
  had : σ.had = !f
  top : f = true → σ.env = []
  txt : c = false → σ.txt = []
  full : c = true → blanks σ.txt = false
def done (σ : St) : List Pc := flushed σ.pcs σ.txt
theorem Inv.len {f c : Bool} {st : List (Row × Int)} {σ : St} (h : Inv f c st σ) : σ.stack.length = st.length := by rw [← h.stk]; simp
theorem Inv.nil {f c : Bool} {st : List (Row × Int)} {σ : St} (h : Inv f c st σ) : σ.stack = [] ↔ st = [] := by
  rw [← h.stk]; simp
theorem tag_eq {p : Pc} {k : Int} (hk : p.kind = k) (h : okTag p = true) : p = ⟨k, p.space, p.name, []⟩ ∧ (0 ≤ p.space ∧ p.space ≤ 2) ∧ nameB p.name = true := by
  unfold okTag at h
  simp only [Bool.and_eq_true, decide_eq_true_eq, List.isEmpty_iff] at h
  obtain ⟨⟨h1, h2⟩, h3⟩ := h
  refine ⟨?_, h2, h3⟩
  cases p
  simp only at hk h1
  subst hk; subst h1; rfl
/-- the root's state and a later one: what an element's beginning finds declared -/
theorem env_here {f c : Bool} {st : List (Row × Int)} {σ : St} (h : Inv f c st σ) (hf : f = true ∨ st ≠ []) (r : Row) (hr : ∃ x t, r = x :: t ∧ (x = 47 ∨ x = 62)) :
    declsA ((if f = true then declS else []) ++ r) [] = some (r, if f = true then envD else []) ∧ (if f = true then envD else []) ++ σ.env = envD := by
  obtain ⟨x, t, rfl, hx⟩ := hr
  have hb : blk x = false := by rcases hx with rfl | rfl <;> decide
  cases f with
  | true =>
    rw [if_pos rfl, if_pos rfl, h.top rfl]
    exact ⟨decls_doc _ (by show (blk x && _) = false; rw [hb]; rfl) (by simp [hb]), by simp⟩
  | false =>
    rw [if_neg (by decide), if_neg (by decide)]
    refine ⟨decls_none x t hb, ?_⟩
    rw [h.env (fun e => ?_)]
    · rfl
    · rcases hf with e1 | e1
      · cases e1
      · exact e1 (h.nil.1 e)
theorem Inv.open {f c : Bool} {st : List (Row × Int)} {σ : St} {p : Pc} (h : Inv f c st σ) (hf : f = true ∨ st ≠ []) (hfs : f = true → st = []) (hk : p.kind = 1) (hp : okTag p = true) (hl : st.length < 16) :
    ∃ τ, Runs σ (60 :: (nm p ++ (if f = true then declS else []) ++ [62])) τ ∧ Inv false false ((p.name, p.space) :: st) τ ∧ done τ = done σ ++ [p] := by
  obtain ⟨e, hs, hn⟩ := tag_eq hk hp
  obtain ⟨x, t, ht, hx⟩ := nm_head p hn
  have hE := fun X => env_here h hf (62 :: X) ⟨62, X, rfl, .inr rfl⟩
  have hw : ∀ X, written (x :: (t ++ (if f = true then declS else []) ++ 62 :: X)) = some (preS p.space, p.name, (if f = true then declS else []) ++ 62 :: X) := fun X => by
    have := written_nm p ((if f = true then declS else []) ++ 62 :: X) hn (fun y hy => by
      cases f with
      | true => rw [if_pos rfl] at hy; cases hy; decide
      | false => rw [if_neg (by decide)] at hy; cases hy; decide)
    rw [ht] at this
    simpa using this
  have hr := runs_open σ x t (if f = true then declS else []) (preS p.space) p.name (if f = true then envD else []) p.space hx hw (fun X => (hE X).1) (by rw [(hE []).2]; exact sp_envD hs) (by rw [h.len]; exact hl) (fun q => by
    rw [h.had]
    cases f with
    | true => rfl
    | false =>
      rcases hf with e1 | e1
      · cases e1
      · exact absurd (h.nil.1 q) e1)
  refine ⟨_, by rw [ht]; simpa using hr, ⟨by simp [h.stk], fun e' he => ?_, fun _ => (hE []).2, fun e' he => ?_, rfl, fun q => (by cases q), fun _ => rfl, fun q => (by cases q)⟩, ?_⟩
  · rcases List.mem_cons.1 he with rfl | he
    · rfl
    · exact h.pre _ he
  · cases hst : σ.stack with
    | nil => simp only [hst] at he; cases he
    | cons a b =>
      simp only [hst, List.dropLast_cons_cons] at he
      rcases List.mem_cons.1 he with rfl | he
      · exact h.env (by rw [hst]; simp)
      · exact h.envs _ (by rw [hst]; exact he)
  · show flushed (done σ ++ _) [] = _
    rw [flushed_nil, ← e]
theorem Inv.both {f c : Bool} {st : List (Row × Int)} {σ : St} {p q : Pc} (h : Inv f c st σ) (hf : f = true ∨ st ≠ []) (hfs : f = true → st = []) (hk : p.kind = 1) (hp : okTag p = true) (hl : st.length < 16)
    (hk' : q.kind = 2) (hq : okTag q = true) (hpq : (p.name, p.space) = (q.name, q.space)) :
    ∃ τ, Runs σ (60 :: (nm p ++ (if f = true then declS else []) ++ [47, 62])) τ ∧ Inv false false st τ ∧ done τ = done σ ++ [p, q] := by
  obtain ⟨e, hs, hn⟩ := tag_eq hk hp
  obtain ⟨e', _, _⟩ := tag_eq hk' hq
  obtain ⟨x, t, ht, hx⟩ := nm_head p hn
  have hE := fun X => env_here h hf (47 :: 62 :: X) ⟨47, 62 :: X, rfl, .inl rfl⟩
  have hw : ∀ X, written (x :: (t ++ (if f = true then declS else []) ++ 47 :: 62 :: X)) = some (preS p.space, p.name, (if f = true then declS else []) ++ 47 :: 62 :: X) := fun X => by
    have := written_nm p ((if f = true then declS else []) ++ 47 :: 62 :: X) hn (fun y hy => by
      cases f with
      | true => rw [if_pos rfl] at hy; cases hy; decide
      | false => rw [if_neg (by decide)] at hy; cases hy; decide)
    rw [ht] at this
    simpa using this
  have hr := runs_both σ x t (if f = true then declS else []) (preS p.space) p.name (if f = true then envD else []) p.space hx hw (fun X => (hE X).1) (by rw [(hE []).2]; exact sp_envD hs) (by rw [h.len]; exact hl) (fun q => by
    rw [h.had]
    cases f with
    | true => rfl
    | false =>
      rcases hf with e1 | e1
      · cases e1
      · exact absurd (h.nil.1 q) e1)
  refine ⟨{ σ with pcs := flushed σ.pcs σ.txt ++ [⟨1, p.space, p.name, []⟩, ⟨2, p.space, p.name, []⟩], txt := [], had := true }, by rw [ht]; simpa using hr, ⟨h.stk, h.pre, fun q => ?_, h.envs, rfl, fun q => (by cases q), fun _ => rfl, fun q => (by cases q)⟩, ?_⟩
  · exact h.env q
  · show flushed (done σ ++ _) [] = _
    injection hpq with e1 e2
    rw [flushed_nil, e1, e2, ← e', ← e1, ← e2, ← e]
theorem Inv.close {c : Bool} {st : List (Row × Int)} {σ : St} {p : Pc} (h : Inv false c ((p.name, p.space) :: st) σ) (hk : p.kind = 2) (hp : okTag p = true) :
    ∃ τ, Runs σ (60 :: 47 :: (nm p ++ [62])) τ ∧ Inv false false st τ ∧ done τ = done σ ++ [p] := by
  obtain ⟨e, hs, hn⟩ := tag_eq hk hp
  have hstk := h.stk
  cases hst : σ.stack with
  | nil => rw [hst] at hstk; cases hstk
  | cons a b =>
    rw [hst, List.map_cons] at hstk
    injection hstk with h1 h2
    injection h1 with h3 h4
    have hpre := h.pre a (by rw [hst]; simp)
    have hr := runs_close σ (nm p) (preS p.space) p.name a b hst (fun X => written_nm p (62 :: X) hn (fun y hy => by cases hy; decide)) (by rw [hpre, h4]) h3.symm
    refine ⟨_, hr, ⟨h2, fun e' he => h.pre e' (by rw [hst]; simp [show e' ∈ b from he]), fun q => ?_, fun e' he => h.envs e' ?_, h.had, fun q => (by cases q), fun _ => rfl, fun q => (by cases q)⟩, ?_⟩
    · refine h.envs a ?_
      rw [hst]
      cases b with
      | nil => exact absurd rfl q
      | cons u v => simp
    · rw [hst]
      cases b with
      | nil => cases he
      | cons u v => simp only [List.dropLast_cons_cons]; exact List.mem_cons_of_mem _ he
    · show flushed (done σ ++ [⟨2, a.space, a.name, []⟩]) [] = _
      rw [flushed_nil, h3, h4, ← e]
theorem Inv.chars {st : List (Row × Int)} {σ : St} {p : Pc} (h : Inv false false st σ) (hst : st ≠ []) (hk : p.kind = 3) (hp : okTxt p = true) :
    ∃ τ, Runs σ (escT p.text) τ ∧ Inv false true st τ ∧ done τ = done σ ++ [p] := by
  unfold okTxt at hp
  simp only [Bool.and_eq_true, decide_eq_true_eq, List.isEmpty_iff, Bool.not_eq_true'] at hp
  obtain ⟨⟨h1, h2⟩, _, h4⟩ := hp
  have ht := h.txt rfl
  refine ⟨_, runs_escT p.text σ (fun e => hst (h.nil.1 e)), ⟨h.stk, h.pre, h.env, h.envs, h.had, h.top, fun q => (by cases q), fun _ => ?_⟩, ?_⟩
  · show blanks (σ.txt ++ p.text) = false
    rw [ht]; exact h4
  · show flushed σ.pcs (σ.txt ++ p.text) = flushed σ.pcs σ.txt ++ [p]
    rw [ht, flushed_nil, List.nil_append]
    unfold flushed
    rw [if_neg (by rw [h4]; decide)]
    congr 2
    cases p
    simp only at hk h1 h2
    subst hk; subst h1; subst h2; rfl
end Go.Proofs.YtjeagjleolmibaaGreatDoor.Xm
