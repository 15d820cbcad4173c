/-
  PLAIN LAWS OF LAYER value: what a value means, read as signs ('signs': a byte, and whether it was escaped), parted ('parts'), cut at a mark ('cutM'), put ('put', 'putL', 'putF'). Nothing of the program is run here.
-/
import Derived.Lib.Hide
set_option linter.unusedVariables false
namespace Go.Proofs.Ytjdockjkioomiaa.Va
abbrev Row := List UInt8
abbrev Sg := UInt8 × Bool

/-! ### signs -/
/-- what an escape stands for -/
def kep (c : UInt8) : Option UInt8 := if c = 92 ∨ c = 44 ∨ c = 59 then some c else if c = 110 ∨ c = 78 then some 10 else none
def signs : Row → Option (List Sg)
  | [] => some []
  | [x] => if x = 92 then none else some [(x, false)]
  | x :: c :: t => if x = 92 then (kep c).bind fun d => (signs t).map fun l => (d, true) :: l else (signs (c :: t)).map fun l => (x, false) :: l
theorem signs_nil : signs [] = some [] := by simp [signs]
theorem signs_end : signs [92] = none := by simp [signs]
theorem signs_esc (c : UInt8) (t : Row) : signs (92 :: c :: t) = (kep c).bind fun d => (signs t).map fun l => (d, true) :: l := by rw [signs]; simp
theorem signs_own (x : UInt8) (t : Row) (h : x ≠ 92) : signs (x :: t) = (signs t).map fun l => (x, false) :: l := by
  cases t with
  | nil => simp [signs, h]
  | cons c t => rw [signs]; simp [h]

theorem signs_append : ∀ (n : Nat) (a b : Row) (x : List Sg), a.length ≤ n → signs a = some x → signs (a ++ b) = (signs b).map fun y => x ++ y
  | n, [], b, x, _, h => by
    rw [signs_nil] at h
    obtain rfl := Option.some.inj h
    simp
  | n, z :: a, b, x, hn, h => by
    match n, hn with
    | 0, hn => simp at hn
    | n + 1, hn =>
      by_cases hz : z = 92
      · subst hz
        match a, hn, h with
        | [], hn, h => rw [signs_end] at h; cases h
        | c :: a, hn, h =>
          rw [signs_esc] at h
          obtain ⟨d, hd, h⟩ := Option.bind_eq_some_iff.1 h
          obtain ⟨y, hy, rfl⟩ := Option.map_eq_some_iff.1 h
          have ih := signs_append n a b y (by simp at hn; omega) hy
          simp only [List.cons_append]
          rw [signs_esc, hd, ih]
          cases signs b <;> simp
      · rw [signs_own _ _ hz] at h
        obtain ⟨y, hy, rfl⟩ := Option.map_eq_some_iff.1 h
        have ih := signs_append n a b y (by simp at hn; omega) hy
        simp only [List.cons_append]
        rw [signs_own _ _ hz, ih]
        cases signs b <;> simp
theorem signs_then {a : Row} {x : List Sg} (h : signs a = some x) (b : Row) : signs (a ++ b) = (signs b).map fun y => x ++ y := signs_append _ a b x (Nat.le_refl _) h
theorem signs_len : ∀ (n : Nat) (a : Row) (x : List Sg), a.length ≤ n → signs a = some x → x.length ≤ a.length
  | n, [], x, _, h => by
    rw [signs_nil] at h
    obtain rfl := Option.some.inj h
    simp
  | n, z :: a, x, hn, h => by
    match n, hn with
    | 0, hn => simp at hn
    | n + 1, hn =>
      by_cases hz : z = 92
      · subst hz
        match a, hn, h with
        | [], hn, h => rw [signs_end] at h; cases h
        | c :: a, hn, h =>
          rw [signs_esc] at h
          obtain ⟨d, hd, h⟩ := Option.bind_eq_some_iff.1 h
          obtain ⟨y, hy, rfl⟩ := Option.map_eq_some_iff.1 h
          have ih := signs_len n a y (by simp at hn; omega) hy
          simp only [List.length_cons]; omega
      · rw [signs_own _ _ hz] at h
        obtain ⟨y, hy, rfl⟩ := Option.map_eq_some_iff.1 h
        have ih := signs_len n a y (by simp at hn; omega) hy
        simp only [List.length_cons]; omega
/-- a text without \ stands for itself -/
theorem signs_free : ∀ (a : Row), 92 ∉ a → signs a = some (a.map fun c => (c, false))
  | [], _ => signs_nil
  | x :: a, h => by
    rw [signs_own _ _ (fun e => h (by simp [e])), signs_free a (fun e => h (by simp [e]))]
    simp

/-! ### what they mean -/
def plain (l : List Sg) : Row := l.map Prod.fst
def parts (m : UInt8) : List Sg → List (List Sg)
  | [] => [[]]
  | x :: l => if x = (m, false) then [] :: parts m l else match parts m l with
    | [] => [[x]]
    | p :: ps => (x :: p) :: ps
def listS (l : List Sg) : List Row := (parts 44 l).map plain
def fldS (l : List Sg) : List (List Row) := (parts 59 l).map listS
def text (s : Row) : Option Row := (signs s).map plain
def list (s : Row) : Option (List Row) := (signs s).map listS
def fields (s : Row) : Option (List (List Row)) := (signs s).map fldS
theorem plain_append (a b : List Sg) : plain (a ++ b) = plain a ++ plain b := by simp [plain]
theorem plain_len (a : List Sg) : (plain a).length = a.length := by simp [plain]

/-- signs laid ahead of the first piece -/
def pre (a : List Sg) : List (List Sg) → List (List Sg)
  | [] => [a]
  | p :: ps => (a ++ p) :: ps
theorem parts_ne (m : UInt8) : ∀ l, parts m l ≠ []
  | [] => by simp [parts]
  | x :: l => by rw [parts]; split; simp; split <;> simp
theorem pre_nil {l : List (List Sg)} (h : l ≠ []) : pre [] l = l := by
  cases l with
  | nil => exact absurd rfl h
  | cons p ps => simp [pre]
theorem pre_pre (a b : List Sg) (l : List (List Sg)) : pre a (pre b l) = pre (a ++ b) l := by cases l <;> simp [pre]
theorem parts_mark (m : UInt8) (l : List Sg) : parts m ((m, false) :: l) = [] :: parts m l := by simp [parts]
theorem parts_own (m : UInt8) (x : Sg) (l : List Sg) (h : x ≠ (m, false)) : parts m (x :: l) = pre [x] (parts m l) := by
  rw [parts, if_neg h]
  have := parts_ne m l
  cases hl : parts m l with
  | nil => exact absurd hl this
  | cons p ps => simp [pre]
theorem pre_one (x : Sg) (l : List (List Sg)) (h : l ≠ []) (b : List (List Sg)) : pre [x] l ++ b = pre [x] (l ++ b) := by
  cases l with
  | nil => exact absurd rfl h
  | cons p ps => simp [pre]
theorem parts_join (m : UInt8) : ∀ (a b : List Sg), parts m (a ++ (m, false) :: b) = parts m a ++ parts m b
  | [], b => by simp [parts]
  | x :: a, b => by
    have ih := parts_join m a b
    by_cases h : x = (m, false)
    · subst h
      rw [List.cons_append, parts_mark, parts_mark, ih]; simp
    · rw [List.cons_append, parts_own m x _ h, parts_own m x _ h, ih, pre_one _ _ (parts_ne m a)]
theorem parts_one (m : UInt8) : ∀ (a : List Sg), (m, false) ∉ a → parts m a = [a]
  | [], _ => by simp [parts]
  | x :: a, h => by
    rw [parts_own m x a (fun e => h (by simp [e])), parts_one m a (fun e => h (by simp [e]))]; simp [pre]
/-- how often a mark stands -/
def cnt (m : UInt8) (l : List Sg) : Nat := l.countP fun x => decide (x = (m, false))
theorem pre_len (a : List Sg) (l : List (List Sg)) (h : l ≠ []) : (pre a l).length = l.length := by
  cases l with
  | nil => exact absurd rfl h
  | cons p ps => simp [pre]
theorem parts_len (m : UInt8) : ∀ (l : List Sg), (parts m l).length = cnt m l + 1
  | [] => by simp [parts, cnt]
  | x :: l => by
    have ih := parts_len m l
    by_cases h : x = (m, false)
    · subst h
      rw [parts_mark, List.length_cons, ih]; simp [cnt]
    · rw [parts_own m x l h, pre_len _ _ (parts_ne m l), ih]
      simp [cnt, h]
theorem parts_sub (m : UInt8) : ∀ (l : List Sg) (p : List Sg), p ∈ parts m l → ∀ x ∈ p, x ∈ l
  | [], p, hp, x, hx => by simp [parts] at hp; subst hp; simp at hx
  | y :: l, p, hp, x, hx => by
    have ih := parts_sub m l
    by_cases h : y = (m, false)
    · subst h
      rw [parts_mark] at hp
      rcases List.mem_cons.1 hp with rfl | hp
      · simp at hx
      · exact List.mem_cons_of_mem _ (ih p hp x hx)
    · rw [parts_own m y l h] at hp
      cases hl : parts m l with
      | nil => exact absurd hl (parts_ne m l)
      | cons q qs =>
        rw [hl] at hp ih
        rcases List.mem_cons.1 hp with rfl | hp
        · simp only [List.singleton_append, List.mem_cons] at hx
          rcases hx with rfl | hx
          · exact List.mem_cons_self
          · exact List.mem_cons_of_mem _ (ih q (by simp) x hx)
        · exact List.mem_cons_of_mem _ (ih p (by simp [hp]) x hx)
theorem sum_pre (m : UInt8) (x : Sg) : ∀ (ps : List (List Sg)), ps ≠ [] → ((pre [x] ps).map (cnt m)).sum = (if x = (m, false) then 1 else 0) + (ps.map (cnt m)).sum
  | [], h => absurd rfl h
  | p :: ps, _ => by
    simp only [pre, List.singleton_append, List.map_cons, List.sum_cons]
    unfold cnt
    rw [List.countP_cons]
    by_cases h : x = (m, false) <;> simp [h] <;> omega
theorem parts_cnt (m k : UInt8) (hmk : m ≠ k) : ∀ (l : List Sg), ((parts m l).map (cnt k)).sum = cnt k l
  | [] => by simp [parts, cnt]
  | x :: l => by
    have ih := parts_cnt m k hmk l
    by_cases h : x = (m, false)
    · subst h
      rw [parts_mark, List.map_cons, List.sum_cons, ih]
      have : ((m, false) : Sg) ≠ (k, false) := fun e => hmk (Prod.mk.inj e).1
      simp [cnt, this]
    · rw [parts_own m x l h, sum_pre k x _ (parts_ne m l), ih]
      unfold cnt
      rw [List.countP_cons]
      by_cases h : x = (k, false) <;> simp [h] <;> omega
theorem fldS_len (l : List Sg) : (fldS l).length = cnt 59 l + 1 := by unfold fldS; rw [List.length_map, parts_len]
theorem listS_len (l : List Sg) : (listS l).length = cnt 44 l + 1 := by unfold listS; rw [List.length_map, parts_len]
theorem fldS_all (l : List Sg) : ((fldS l).map List.length).sum = cnt 44 l + (cnt 59 l + 1) := by
  unfold fldS
  rw [List.map_map]
  have : (List.length ∘ listS) = fun p => cnt 44 p + 1 := by funext p; exact listS_len p
  rw [this]
  have h := parts_cnt 59 44 (by decide) l
  have h2 := parts_len 59 l
  rw [← h, ← h2]
  induction parts 59 l with
  | nil => rfl
  | cons p ps ih => simp only [List.map_cons, List.sum_cons, List.length_cons, ih]; omega
theorem cnt_le (m : UInt8) (l : List Sg) : cnt m l ≤ l.length := by unfold cnt; exact List.countP_le_length

/-! ### cut at a mark -/
def cutM (m : UInt8) : Row → Option (Row × Row)
  | [] => none
  | [x] => if x = 92 then none else if x = m then some ([], []) else none
  | x :: c :: t => if x = 92 then (cutM m t).map fun p => (x :: c :: p.1, p.2) else if x = m then some ([], c :: t) else (cutM m (c :: t)).map fun p => (x :: p.1, p.2)
theorem cutM_nil (m : UInt8) : cutM m [] = none := by simp [cutM]
theorem cutM_end (m : UInt8) : cutM m [92] = none := by simp [cutM]
theorem cutM_esc (m c : UInt8) (t : Row) : cutM m (92 :: c :: t) = (cutM m t).map fun p => (92 :: c :: p.1, p.2) := by rw [cutM]; simp
theorem cutM_mark (m : UInt8) (t : Row) (h : m ≠ 92) : cutM m (m :: t) = some ([], t) := by
  cases t with
  | nil => simp [cutM, h]
  | cons c t => rw [cutM]; simp [h]
theorem cutM_own (m x : UInt8) (t : Row) (h : x ≠ 92) (hm : x ≠ m) : cutM m (x :: t) = (cutM m t).map fun p => (x :: p.1, p.2) := by
  cases t with
  | nil => simp [cutM, h, hm]
  | cons c t => rw [cutM]; simp [h, hm]
/-- where there is none, there is one piece -/
theorem cutM_none (m : UInt8) (h92 : m ≠ 92) : ∀ (n : Nat) (s : Row) (l : List Sg), s.length ≤ n → cutM m s = none → signs s = some l → (m, false) ∉ l
  | n, [], l, _, _, h => by
    rw [signs_nil] at h
    obtain rfl := Option.some.inj h
    simp
  | n, z :: a, l, hn, hc, h => by
    match n, hn with
    | 0, hn => simp at hn
    | n + 1, hn =>
      by_cases hz : z = 92
      · subst hz
        match a, hn, h, hc with
        | [], hn, h, hc => rw [signs_end] at h; cases h
        | c :: a, hn, h, hc =>
          rw [signs_esc] at h
          obtain ⟨d, hd, h⟩ := Option.bind_eq_some_iff.1 h
          obtain ⟨y, hy, rfl⟩ := Option.map_eq_some_iff.1 h
          rw [cutM_esc, Option.map_eq_none_iff] at hc
          have ih := cutM_none m h92 n a y (by simp at hn; omega) hc hy
          simp [ih]
      · rw [signs_own _ _ hz] at h
        obtain ⟨y, hy, rfl⟩ := Option.map_eq_some_iff.1 h
        by_cases hm : z = m
        · subst hm
          rw [cutM_mark _ _ hz] at hc; cases hc
        · rw [cutM_own _ _ _ hz hm, Option.map_eq_none_iff] at hc
          have ih := cutM_none m h92 n a y (by simp at hn; omega) hc hy
          simp [ih, Ne.symm hm]
/-- where there is one, the signs fall into what is ahead and what is behind -/
theorem cutM_some (m : UInt8) (h92 : m ≠ 92) : ∀ (n : Nat) (s a r : Row), s.length ≤ n → cutM m s = some (a, r) →
    s = a ++ m :: r ∧ signs s = ((signs a).bind fun x => (signs r).map fun y => x ++ (m, false) :: y) ∧ (∀ x, signs a = some x → (m, false) ∉ x)
  | n, [], a, r, _, h => by rw [cutM_nil] at h; cases h
  | n, z :: s, a, r, hn, hc => by
    match n, hn with
    | 0, hn => simp at hn
    | n + 1, hn =>
      by_cases hz : z = 92
      · subst hz
        match s, hn, hc with
        | [], hn, hc => rw [cutM_end] at hc; cases hc
        | c :: s, hn, hc =>
          rw [cutM_esc] at hc
          obtain ⟨⟨p, q⟩, hp, he⟩ := Option.map_eq_some_iff.1 hc
          simp only [Prod.mk.injEq] at he
          obtain ⟨rfl, rfl⟩ := he
          obtain ⟨h1, h2, h3⟩ := cutM_some m h92 n s p q (by simp at hn; omega) hp
          refine ⟨by rw [h1]; simp, ?_, fun x hx => ?_⟩
          · rw [signs_esc, signs_esc, h2]
            cases kep c <;> cases signs p <;> cases signs q <;> simp
          · rw [signs_esc] at hx
            obtain ⟨d, hd, hx⟩ := Option.bind_eq_some_iff.1 hx
            obtain ⟨y, hy, rfl⟩ := Option.map_eq_some_iff.1 hx
            simp [h3 y hy]
      · by_cases hm : z = m
        · subst hm
          rw [cutM_mark _ _ hz] at hc
          have hc := Option.some.inj hc
          simp only [Prod.mk.injEq] at hc
          obtain ⟨rfl, rfl⟩ := hc
          refine ⟨rfl, ?_, fun x hx => ?_⟩
          · rw [signs_own _ _ hz, signs_nil]; simp
          · rw [signs_nil] at hx
            obtain rfl := Option.some.inj hx
            simp
        · rw [cutM_own _ _ _ hz hm] at hc
          obtain ⟨⟨p, q⟩, hp, he⟩ := Option.map_eq_some_iff.1 hc
          simp only [Prod.mk.injEq] at he
          obtain ⟨rfl, rfl⟩ := he
          obtain ⟨h1, h2, h3⟩ := cutM_some m h92 n s p q (by simp at hn; omega) hp
          refine ⟨by rw [h1]; simp, ?_, fun x hx => ?_⟩
          · rw [signs_own _ _ hz, signs_own _ _ hz, h2]
            cases signs p <;> cases signs q <;> simp
          · rw [signs_own _ _ hz] at hx
            obtain ⟨y, hy, rfl⟩ := Option.map_eq_some_iff.1 hx
            simp [h3 y hy, Ne.symm hm]

/-! ### pieces, each read -/
/-- what rd makes of the signs of each piece -/
def pcs {α : Type} (m : UInt8) (rd : List Sg → α) (s : Row) : Option (List α) := (signs s).map fun l => (parts m l).map rd
theorem list_pcs (s : Row) : list s = pcs 44 plain s := rfl
theorem fields_pcs (s : Row) : fields s = pcs 59 listS s := rfl
theorem pcs_last {α : Type} (m : UInt8) (h92 : m ≠ 92) (rd : List Sg → α) (s : Row) (h : cutM m s = none) : pcs m rd s = ((signs s).map rd).map fun x => [x] := by
  unfold pcs
  cases hs : signs s with
  | none => rfl
  | some l =>
    have := parts_one m l (cutM_none m h92 _ s l (Nat.le_refl _) h hs)
    simp [this]
theorem pcs_more {α : Type} (m : UInt8) (h92 : m ≠ 92) (rd : List Sg → α) (s a r : Row) (h : cutM m s = some (a, r)) : pcs m rd s = ((signs a).map rd).bind fun x => (pcs m rd r).map fun y => x :: y := by
  obtain ⟨_, h2, h3⟩ := cutM_some m h92 _ s a r (Nat.le_refl _) h
  unfold pcs
  rw [h2]
  cases ha : signs a with
  | none => rfl
  | some x =>
    cases hr : signs r with
    | none => rfl
    | some y =>
      have := parts_one m x (h3 x ha)
      simp [parts_join, this]
theorem cutM_len (m : UInt8) (h92 : m ≠ 92) {s a r : Row} (h : cutM m s = some (a, r)) : a.length + (r.length + 1) = s.length := by
  rw [(cutM_some m h92 _ s a r (Nat.le_refl _) h).1]; simp

/-! ### put -/
def put1 (c : UInt8) : Row := if c = 92 ∨ c = 44 ∨ c = 59 then [92, c] else if c = 10 then [92, 110] else [c]
def put : Row → Row
  | [] => []
  | c :: t => put1 c ++ put t
/-- laid behind one another, a mark between -/
def tl (m : UInt8) : List Row → Row
  | [] => []
  | x :: xs => m :: x ++ tl m xs
def jn (m : UInt8) : List Row → Row
  | [] => []
  | x :: xs => x ++ tl m xs
def putL (ts : List Row) : Row := jn 44 (ts.map put)
def putF (fs : List (List Row)) : Row := jn 59 (fs.map putL)
theorem put_append : ∀ (a b : Row), put (a ++ b) = put a ++ put b
  | [], b => rfl
  | c :: a, b => by simp only [List.cons_append, put, put_append a b, List.append_assoc]
theorem put1_len (c : UInt8) : (put1 c).length ≤ 2 := by unfold put1; split; simp; split <;> simp
theorem put_len : ∀ (a : Row), (put a).length ≤ 2 * a.length
  | [] => by simp [put]
  | c :: a => by have := put_len a; have := put1_len c; simp only [put, List.length_append, List.length_cons]; omega
theorem tl_append (m : UInt8) : ∀ (a b : List Row), tl m (a ++ b) = tl m a ++ tl m b
  | [], b => rfl
  | x :: a, b => by simp only [List.cons_append, tl, tl_append m a b, List.append_assoc]
/-- the next one is put behind -/
theorem jn_snoc (m : UInt8) (a : List Row) (x : Row) : jn m (a ++ [x]) = if a = [] then x else jn m a ++ m :: x := by
  cases a with
  | nil => simp [jn, tl]
  | cons y a => simp [jn, tl_append, tl]
def sg1 (c : UInt8) : Sg := (c, decide (c = 92 ∨ c = 44 ∨ c = 59 ∨ c = 10))
theorem signs_put1 (c : UInt8) : signs (put1 c) = some [sg1 c] := by
  unfold put1 sg1
  by_cases h : c = 92 ∨ c = 44 ∨ c = 59
  · rw [if_pos h, signs_esc]
    have : decide (c = 92 ∨ c = 44 ∨ c = 59 ∨ c = 10) = true := decide_eq_true (by rcases h with h | h | h <;> simp [h])
    simp [kep, h, signs_nil, this]
  · rw [if_neg h]
    by_cases h10 : c = 10
    · subst h10; rfl
    · rw [if_neg h10, signs_own _ _ (fun e => h (.inl e)), signs_nil]
      have : decide (c = 92 ∨ c = 44 ∨ c = 59 ∨ c = 10) = false := decide_eq_false (by rintro (e | e | e | e) <;> simp_all)
      simp [this]
theorem signs_put : ∀ (a : Row), signs (put a) = some (a.map sg1)
  | [] => signs_nil
  | c :: a => by rw [put, signs_then (signs_put1 c), signs_put a]; simp
theorem plain_sg (a : Row) : plain (a.map sg1) = a := by
  unfold plain
  rw [List.map_map]
  have : (Prod.fst ∘ sg1) = id := by funext c; rfl
  rw [this, List.map_id]
theorem sg1_no (c m : UInt8) (h : m = 44 ∨ m = 59) : sg1 c ≠ (m, false) := by
  unfold sg1
  intro e
  simp only [Prod.mk.injEq, decide_eq_false_iff_not] at e
  obtain ⟨rfl, e⟩ := e
  rcases h with rfl | rfl <;> simp at e
theorem put_free (a : Row) (m : UInt8) (h : m = 44 ∨ m = 59) : (m, false) ∉ a.map sg1 := fun hm => by
  obtain ⟨c, _, hc⟩ := List.mem_map.1 hm
  exact sg1_no c m h hc
theorem text_put (a : Row) : text (put a) = some a := by unfold text; rw [signs_put]; simp [plain_sg]
/-- rows whose signs are known, joined -/
def jnS (m : UInt8) : List (List Sg) → List Sg
  | [] => []
  | [x] => x
  | x :: y :: xs => x ++ (m, false) :: jnS m (y :: xs)
theorem signs_jn (m : UInt8) (h92 : m ≠ 92) {α : Type} (f : α → Row) (g : α → List Sg) (h : ∀ a, signs (f a) = some (g a)) : ∀ (xs : List α), signs (jn m (xs.map f)) = some (jnS m (xs.map g))
  | [] => signs_nil
  | [x] => by simp [jn, tl, jnS, h]
  | x :: y :: xs => by
    have ih := signs_jn m h92 f g h (y :: xs)
    have e : jn m ((x :: y :: xs).map f) = f x ++ (m :: jn m ((y :: xs).map f)) := by simp [jn, tl]
    rw [e, signs_then (h x), signs_own _ _ h92, ih]
    simp [jnS]
theorem parts_jn (m : UInt8) : ∀ (xs : List (List Sg)), xs ≠ [] → (∀ x ∈ xs, (m, false) ∉ x) → parts m (jnS m xs) = xs
  | [], h, _ => absurd rfl h
  | [x], _, h => by simp [jnS, parts_one m x (h x (by simp))]
  | x :: y :: xs, _, h => by
    have ih := parts_jn m (y :: xs) (by simp) (fun z hz => h z (by simp [hz]))
    rw [jnS, parts_join, ih, parts_one m x (h x (by simp))]; simp
theorem jnS_free (m k : UInt8) (hmk : m ≠ k) : ∀ (xs : List (List Sg)), (∀ x ∈ xs, (k, false) ∉ x) → (k, false) ∉ jnS m xs
  | [], _ => by simp [jnS]
  | [x], h => by simpa [jnS] using h x (by simp)
  | x :: y :: xs, h => by
    have ih := jnS_free m k hmk (y :: xs) (fun z hz => h z (by simp [hz]))
    have h0 := h x (by simp)
    rw [jnS]
    simp only [List.mem_append, List.mem_cons, Prod.mk.injEq, and_true]
    rintro (e | e | e)
    · exact h0 e
    · exact hmk e.symm
    · exact ih e
def sgL (ts : List Row) : List Sg := jnS 44 (ts.map fun t => t.map sg1)
theorem signs_putL (ts : List Row) : signs (putL ts) = some (sgL ts) := signs_jn 44 (by decide) put (fun t => t.map sg1) signs_put ts
theorem listS_sgL (ts : List Row) (h : ts ≠ []) : listS (sgL ts) = ts := by
  unfold listS sgL
  rw [parts_jn 44 _ (by simpa using h) (fun x hx => by obtain ⟨t, _, rfl⟩ := List.mem_map.1 hx; exact put_free t 44 (.inl rfl)), List.map_map]
  have : (plain ∘ fun t : Row => t.map sg1) = id := by funext t; exact plain_sg t
  rw [this, List.map_id]
theorem list_putL (ts : List Row) (h : ts ≠ []) : list (putL ts) = some ts := by unfold list; rw [signs_putL]; simp [listS_sgL ts h]
theorem fields_putF (fs : List (List Row)) (h : fs ≠ []) (hf : ∀ f ∈ fs, f ≠ []) : fields (putF fs) = some fs := by
  unfold fields putF
  rw [signs_jn 59 (by decide) putL sgL signs_putL, Option.map_some]
  unfold fldS
  rw [parts_jn 59 _ (by simpa using h) (fun x hx => by
    obtain ⟨f, _, rfl⟩ := List.mem_map.1 hx
    exact jnS_free 44 59 (by decide) _ (fun y hy => by obtain ⟨t, _, rfl⟩ := List.mem_map.1 hy; exact put_free t 59 (.inr rfl))), List.map_map]
  congr 1
  conv => rhs; rw [← List.map_id fs]
  exact List.map_congr_left fun f hm => listS_sgL f (hf f hm)
theorem list_put (a : Row) : list (put a) = some [a] := by
  have := list_putL [a] (by simp)
  simpa [putL, jn, tl] using this
theorem fields_put (a : Row) : fields (put a) = some [[a]] := by
  have := fields_putF [[a]] (by simp) (by simp)
  simpa [putF, putL, jn, tl] using this

/-! ### lists behind lists -/
theorem signs_mark (m : UInt8) (h92 : m ≠ 92) (a b : Row) (x : List Sg) (h : signs a = some x) : signs (a ++ m :: b) = (signs b).map fun y => x ++ (m, false) :: y := by
  rw [signs_then h, signs_own _ _ h92, Option.map_map]; rfl
theorem list_mark {a b : Row} {x y : List Row} (ha : list a = some x) (hb : list b = some y) : list (a ++ 44 :: b) = some (x ++ y) := by
  unfold list at *
  obtain ⟨l, hl, rfl⟩ := Option.map_eq_some_iff.1 ha
  obtain ⟨r, hr, rfl⟩ := Option.map_eq_some_iff.1 hb
  rw [signs_mark 44 (by decide) a b l hl, hr]
  simp [listS, parts_join]
theorem list_mark_none {a b : Row} {x : List Row} (ha : list a = some x) (hb : list b = none) : list (a ++ 44 :: b) = none := by
  unfold list at *
  obtain ⟨l, hl, rfl⟩ := Option.map_eq_some_iff.1 ha
  rw [Option.map_eq_none_iff] at hb
  rw [signs_mark 44 (by decide) a b l hl, hb]; rfl
theorem fields_mark {a b : Row} {x y : List (List Row)} (ha : fields a = some x) (hb : fields b = some y) : fields (a ++ 59 :: b) = some (x ++ y) := by
  unfold fields at *
  obtain ⟨l, hl, rfl⟩ := Option.map_eq_some_iff.1 ha
  obtain ⟨r, hr, rfl⟩ := Option.map_eq_some_iff.1 hb
  rw [signs_mark 59 (by decide) a b l hl, hr]
  simp [fldS, parts_join]
theorem list_iff {a : Row} : list a = none ↔ signs a = none := by unfold list; rw [Option.map_eq_none_iff]
theorem fields_iff {a : Row} : fields a = none ↔ signs a = none := by unfold fields; rw [Option.map_eq_none_iff]
theorem text_iff {a : Row} : text a = none ↔ signs a = none := by unfold text; rw [Option.map_eq_none_iff]

/-! ### how much there is -/
theorem text_len {a t : Row} (h : text a = some t) : t.length ≤ a.length := by
  unfold text at h
  obtain ⟨l, hl, rfl⟩ := Option.map_eq_some_iff.1 h
  rw [plain_len]
  exact signs_len _ a l (Nat.le_refl _) hl
theorem list_len {a : Row} {x : List Row} (h : list a = some x) : x.length ≤ a.length + 1 := by
  unfold list at h
  obtain ⟨l, hl, rfl⟩ := Option.map_eq_some_iff.1 h
  have := signs_len _ a l (Nat.le_refl _) hl
  have := cnt_le 44 l
  rw [listS_len]; omega
theorem fields_len {a : Row} {x : List (List Row)} (h : fields a = some x) : x.length ≤ a.length + 1 := by
  unfold fields at h
  obtain ⟨l, hl, rfl⟩ := Option.map_eq_some_iff.1 h
  have := signs_len _ a l (Nat.le_refl _) hl
  have := cnt_le 59 l
  rw [fldS_len]; omega
end Go.Proofs.Ytjdockjkioomiaa.Va
