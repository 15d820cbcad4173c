/-
  PLAIN WORDS OF LAYER codec: commands, replies and entries as bytes ('comB', 'repB', 'logB'), and bytes read ('comS', 'repS', 'logS': what is left, whether a byte was wrong; none: they ended too early). Nothing of the program is run here.
-/
import Derived.Test.YtpngbfmbjldieaaLayP
set_option linter.unusedVariables false
namespace Go.Proofs.Ytpngbfmbjldieaa.Cd
open Bo (Row)
open Ly (word text flag num word_len num_word)

/-! ### numbers of 64 bits -/
def toU (z : Int) : Nat := (z % 18446744073709551616).toNat
def toI (n : Nat) : Int := if n < 9223372036854775808 then (n : Int) else (n : Int) - 18446744073709551616
def wrd (z : Int) : Row := word (toU z)
def is64 (z : Int) : Prop := -9223372036854775808 ≤ z ∧ z < 9223372036854775808
theorem toU_lt (z : Int) : toU z < 18446744073709551616 := by unfold toU; omega
theorem toI_toU {z : Int} (h : is64 z) : toI (toU z) = z := by
  unfold is64 at h
  unfold toI toU
  split <;> omega
theorem toU_toI {n : Nat} (h : n < 18446744073709551616) : toU (toI n) = n := by
  unfold toI toU
  split <;> omega
theorem toI_is (n : Nat) (h : n < 18446744073709551616) : is64 (toI n) := by
  unfold toI is64
  split <;> omega
theorem wrd_len (z : Int) : (wrd z).length = 8 := word_len _
theorem word_num : ∀ (x : Row), x.length = 8 → word (num x) = x := fun x h => by
  match x, h with
  | [a, b, c, d, e, f, g, k], _ =>
    have ha := a.toNat_lt; have hb := b.toNat_lt; have hc := c.toNat_lt; have hd := d.toNat_lt
    have he := e.toNat_lt; have hf := f.toNat_lt; have hg := g.toNat_lt; have hk := k.toNat_lt
    have e1 : word (num [a, b, c, d, e, f, g, k]) = [UInt8.ofNat (num [a, b, c, d, e, f, g, k] / 2 ^ 56), UInt8.ofNat (num [a, b, c, d, e, f, g, k] / 2 ^ 48), UInt8.ofNat (num [a, b, c, d, e, f, g, k] / 2 ^ 40), UInt8.ofNat (num [a, b, c, d, e, f, g, k] / 2 ^ 32), UInt8.ofNat (num [a, b, c, d, e, f, g, k] / 2 ^ 24), UInt8.ofNat (num [a, b, c, d, e, f, g, k] / 2 ^ 16), UInt8.ofNat (num [a, b, c, d, e, f, g, k] / 2 ^ 8), UInt8.ofNat (num [a, b, c, d, e, f, g, k] / 2 ^ 0)] := rfl
    have e2 : num [a, b, c, d, e, f, g, k] = ((((((a.toNat * 256 + b.toNat) * 256 + c.toNat) * 256 + d.toNat) * 256 + e.toNat) * 256 + f.toNat) * 256 + g.toNat) * 256 + k.toNat := by
      unfold num
      simp only [List.foldl_cons, List.foldl_nil]
      omega
    have key : ∀ (n : Nat) (u : UInt8), n % 256 = u.toNat → UInt8.ofNat n = u := fun n u h => by
      apply UInt8.toNat_inj.1
      rw [UInt8.toNat_ofNat']
      omega
    refine e1.trans ?_
    clear e1
    generalize num [a, b, c, d, e, f, g, k] = n at e2
    rw [key (n / 2 ^ 56) a (by omega), key (n / 2 ^ 48) b (by omega), key (n / 2 ^ 40) c (by omega), key (n / 2 ^ 32) d (by omega), key (n / 2 ^ 24) e (by omega), key (n / 2 ^ 16) f (by omega), key (n / 2 ^ 8) g (by omega), key (n / 2 ^ 0) k (by omega)]

/-! ### reading -/
/-- what is left, and whether a byte was wrong; none: the bytes ended too early -/
abbrev St : Type := Option (Row × Bool)
def takeS (n : Nat) : St → Row × St
  | none => ([], none)
  | some (l, f) => if l.length < n then ([], none) else (l.take n, some (l.drop n, f))
def numS (s : St) : Nat × St := (num (takeS 8 s).1, (takeS 8 s).2)
def intS (s : St) : Int × St := (toI (numS s).1, (numS s).2)
def cntB (n : Nat) : St → Nat × St
  | none => (0, none)
  | some (l, f) => if l.length < n then (0, none) else (n, some (l, f))
def cntS (s : St) : Nat × St := cntB (numS s).1 (numS s).2
def txtS (s : St) : Row × St := takeS (cntS s).1 (cntS s).2
def wrong (b : Bool) : St → St
  | none => none
  | some (l, f) => some (l, f || b)
def bytS (s : St) : Nat × St := (num (takeS 1 s).1, (takeS 1 s).2)
def flgS (s : St) : Bool × St := (decide ((bytS s).1 = 1), wrong (decide (1 < (bytS s).1)) (bytS s).2)
def lstS {α : Type} (get : St → α × St) : Nat → St → List α × St
  | 0, s => ([], s)
  | n + 1, none => ([], none)
  | n + 1, some y => ((get (some y)).1 :: (lstS get n (get (some y)).2).1, (lstS get n (get (some y)).2).2)
def rowS {α : Type} (get : St → α × St) (s : St) : List α × St := lstS get (cntS s).1 (cntS s).2
def endS : St → Nat
  | none => 150
  | some (l, f) => if 0 < l.length then 151 else if f = true then 31 else 0
structure Com where
  op : Int
  book : Row
  name : Row
  data : Row
  mat : Row
  non : Row
  tok : Row
  names : List Row
  pos : Int
  ses : Int
  seq : Int
deriving DecidableEq
structure En where
  name : Row
  tag : Int
  data : Row
  gone : Bool
structure Rep where
  st : Int
  tag : Int
  data : Row
  ents : List En
  tok : Row
structure Lg where
  term : Int
  kind : Int
  com : Com
  nodes : List Int
deriving DecidableEq
def com0 : Com := ⟨0, [], [], [], [], [], [], [], 0, 0, 0⟩
def rep0 : Rep := ⟨0, 0, [], [], []⟩
def lg0 : Lg := ⟨0, 0, com0, []⟩
def rows {α : Type} (put : α → Row) (l : List α) : Row := word l.length ++ (l.map put).flatten
def comB (c : Com) : Row := wrd c.op ++ (text c.book ++ (text c.name ++ (text c.data ++ (text c.mat ++ (text c.non ++ (text c.tok ++ (rows text c.names ++ (wrd c.pos ++ (wrd c.ses ++ wrd c.seq)))))))))
def enB (e : En) : Row := text e.name ++ (wrd e.tag ++ (text e.data ++ flag e.gone))
def repB (r : Rep) : Row := wrd r.st ++ (wrd r.tag ++ (text r.data ++ (rows enB r.ents ++ text r.tok)))
def comS (s : St) : Com × St :=
  let a := intS s; let b := txtS a.2; let c := txtS b.2; let d := txtS c.2; let e := txtS d.2; let f := txtS e.2; let g := txtS f.2; let h := rowS txtS g.2; let i := intS h.2; let j := intS i.2; let k := intS j.2
  (⟨a.1, b.1, c.1, d.1, e.1, f.1, g.1, h.1, i.1, j.1, k.1⟩, k.2)
def enS (s : St) : En × St :=
  let a := txtS s; let b := intS a.2; let c := txtS b.2; let d := flgS c.2
  (⟨a.1, b.1, c.1, d.1⟩, d.2)
def repS (s : St) : Rep × St :=
  let a := intS s; let b := intS a.2; let c := txtS b.2; let d := rowS enS c.2; let e := txtS d.2
  (⟨a.1, b.1, c.1, d.1, e.1⟩, e.2)
/-- which kind an entry's byte says: above two it is none -/
def knd (s : St) : Nat × St := ((bytS s).1, wrong (decide (2 < (bytS s).1)) (bytS s).2)
def logS (s : St) : Lg × St :=
  let a := intS s; let b := knd a.2
  if b.1 = 1 then (⟨a.1, 1, (comS b.2).1, []⟩, (comS b.2).2)
  else if b.1 = 2 then (⟨a.1, 2, com0, (rowS intS b.2).1⟩, (rowS intS b.2).2)
  else (⟨a.1, (b.1 : Int), com0, []⟩, b.2)
/-- an entry's bytes; none: it can't be -/
def logB (l : Lg) : Option Row :=
  if l.kind = 0 ∧ l.com = com0 ∧ l.nodes = [] then some (wrd l.term ++ [0])
  else if l.kind = 1 ∧ l.nodes = [] then some (wrd l.term ++ ([1] ++ comB l.com))
  else if l.kind = 2 ∧ l.com = com0 then some (wrd l.term ++ ([2] ++ rows wrd l.nodes))
  else none

/-! ### what is put is got, and each value has one form alone -/
structure Cod {α : Type} (get : St → α × St) (put : α → Row) (ok : α → Prop) : Prop where
  back : ∀ {x : α}, ok x → ∀ r f, get (some (put x ++ r, f)) = (x, some (r, f))
  only : ∀ {l f x r f'}, get (some (l, f)) = (x, some (r, f')) → f' = false → f = false ∧ l = put x ++ r
  ext : ∀ {l f x r f'} (t : Row), get (some (l, f)) = (x, some (r, f')) → get (some (l ++ t, f)) = (x, some (r ++ t, f'))
  gone : (get none).2 = none
def seqS {α β : Type} (g : St → α × St) (h : St → β × St) (s : St) : (α × β) × St := (((g s).1, (h (g s).2).1), (h (g s).2).2)
def mapS {α β : Type} (f : α → β) (g : St → α × St) (s : St) : β × St := (f (g s).1, (g s).2)
theorem Cod.seq {α β : Type} {g : St → α × St} {h : St → β × St} {p : α → Row} {q : β → Row} {o1 : α → Prop} {o2 : β → Prop} (hg : Cod g p o1) (hh : Cod h q o2) : Cod (seqS g h) (fun x => p x.1 ++ q x.2) (fun x => o1 x.1 ∧ o2 x.2) where
  back := fun {x} ho r f => by
    unfold seqS
    rw [List.append_assoc, hg.back ho.1, hh.back ho.2]
  only := fun {l f x r f'} e hf => by
    unfold seqS at e
    obtain ⟨e1, e2⟩ := Prod.mk.inj e
    cases hs : (g (some (l, f))).2 with
    | none =>
      rw [hs, hh.gone] at e2
      cases e2
    | some y =>
      obtain ⟨l2, f2⟩ := y
      have h1 : g (some (l, f)) = ((g (some (l, f))).1, some (l2, f2)) := by rw [← hs]
      rw [hs] at e1 e2
      have h2 : h (some (l2, f2)) = ((h (some (l2, f2))).1, some (r, f')) := by rw [← e2]
      obtain ⟨k1, k2⟩ := hh.only h2 hf
      obtain ⟨k3, k4⟩ := hg.only h1 k1
      refine ⟨k3, ?_⟩
      rw [← e1]
      refine k4.trans ?_
      show _ = (p (g (some (l, f))).1 ++ q (h (some (l2, f2))).1) ++ r
      rw [List.append_assoc, ← k2]
  ext := fun {l f x r f'} t e => by
    unfold seqS at e ⊢
    obtain ⟨e1, e2⟩ := Prod.mk.inj e
    cases hs : (g (some (l, f))).2 with
    | none =>
      rw [hs, hh.gone] at e2
      cases e2
    | some y =>
      obtain ⟨l2, f2⟩ := y
      have h1 : g (some (l, f)) = ((g (some (l, f))).1, some (l2, f2)) := by rw [← hs]
      rw [hs] at e1 e2
      have h2 : h (some (l2, f2)) = ((h (some (l2, f2))).1, some (r, f')) := by rw [← e2]
      rw [hg.ext t h1, hh.ext t h2, ← e1]
  gone := by unfold seqS; rw [hg.gone, hh.gone]
theorem Cod.map {α β : Type} {g : St → α × St} {p : α → Row} {o : α → Prop} (hg : Cod g p o) (f : α → β) (i : β → α) (h1 : ∀ y, f (i y) = y) (h2 : ∀ x, i (f x) = x) : Cod (mapS f g) (fun y => p (i y)) (fun y => o (i y)) where
  back := fun {x} ho r b => by unfold mapS; rw [hg.back ho, h1]
  only := fun {l b x r b'} e hf => by
    unfold mapS at e
    obtain ⟨e1, e2⟩ := Prod.mk.inj e
    have h : g (some (l, b)) = ((g (some (l, b))).1, some (r, b')) := by rw [← e2]
    obtain ⟨k1, k2⟩ := hg.only h hf
    refine ⟨k1, ?_⟩
    rw [← e1, h2]
    exact k2
  ext := fun {l b x r b'} t e => by
    unfold mapS at e ⊢
    obtain ⟨e1, e2⟩ := Prod.mk.inj e
    have h : g (some (l, b)) = ((g (some (l, b))).1, some (r, b')) := by rw [← e2]
    rw [hg.ext t h, ← e1]
  gone := hg.gone
theorem takeS_back (x r : Row) (f : Bool) : takeS x.length (some (x ++ r, f)) = (x, some (r, f)) := by
  show (if (x ++ r).length < x.length then (([] : Row), (none : St)) else ((x ++ r).take x.length, some ((x ++ r).drop x.length, f))) = _
  rw [if_neg (by rw [List.length_append]; omega), List.take_left, List.drop_left]
theorem takeS_none (n : Nat) : takeS n none = ([], none) := rfl
theorem takeS_some {n : Nat} {l x r : Row} {f f' : Bool} (h : takeS n (some (l, f)) = (x, some (r, f'))) : l = x ++ r ∧ x.length = n ∧ f' = f := by
  have h' : (if l.length < n then (([] : Row), (none : St)) else (l.take n, some (l.drop n, f))) = (x, some (r, f')) := h
  split at h'
  · cases h'
  · rename_i hl
    obtain ⟨e1, e2⟩ := Prod.mk.inj h'
    injection e2 with e2
    obtain ⟨e2, e3⟩ := Prod.mk.inj e2
    exact ⟨by rw [← e1, ← e2, List.take_append_drop], by rw [← e1, List.length_take]; omega, e3.symm⟩
theorem cod_int : Cod intS wrd is64 where
  back := fun {x} ho r f => by
    have h := takeS_back (wrd x) r f
    rw [wrd_len] at h
    unfold intS numS
    rw [h]
    unfold wrd
    rw [num_word _ (toU_lt _), toI_toU ho]
  only := fun {l f x r f'} e hf => by
    unfold intS numS at e
    obtain ⟨e1, e2⟩ := Prod.mk.inj e
    have h : takeS 8 (some (l, f)) = ((takeS 8 (some (l, f))).1, some (r, f')) := by rw [← e2]
    obtain ⟨k1, k2, k3⟩ := takeS_some h
    generalize (takeS 8 (some (l, f))).1 = y at *
    refine ⟨by rw [← k3]; exact hf, ?_⟩
    have hn := Ly.num_lt 8 y k2
    rw [k1, ← e1]
    unfold wrd
    rw [toU_toI (by simpa using hn), word_num y k2]
  ext := fun {l f x r f'} t e => by
    unfold intS numS at e ⊢
    obtain ⟨e1, e2⟩ := Prod.mk.inj e
    have h : takeS 8 (some (l, f)) = ((takeS 8 (some (l, f))).1, some (r, f')) := by rw [← e2]
    obtain ⟨k1, k2, k3⟩ := takeS_some h
    generalize (takeS 8 (some (l, f))).1 = y at *
    have hb := takeS_back y (r ++ t) f
    rw [k2] at hb
    rw [k1, List.append_assoc, hb, ← e1, k3]
  gone := rfl
def isC (n : Nat) : Prop := n < 18446744073709551616
/-- a count, where so many bytes are behind -/
theorem cntS_back {n : Nat} (h : isC n) (r : Row) (f : Bool) (hr : n ≤ r.length) : cntS (some (word n ++ r, f)) = (n, some (r, f)) := by
  have hb := takeS_back (word n) r f
  rw [word_len] at hb
  unfold cntS numS
  rw [hb, num_word _ h]
  show (if r.length < n then (0, none) else (n, some (r, f))) = _
  rw [if_neg (by omega)]
theorem cntS_some {l r : Row} {f f' : Bool} {n : Nat} (h : cntS (some (l, f)) = (n, some (r, f'))) : l = word n ++ r ∧ n ≤ r.length ∧ f' = f ∧ isC n := by
  unfold cntS numS at h
  cases hs : takeS 8 (some (l, f)) with
  | mk y s =>
    rw [hs] at h
    cases s with
    | none => cases h
    | some z =>
      obtain ⟨l2, f2⟩ := z
      obtain ⟨k1, k2, k3⟩ := takeS_some hs
      have h' : (if l2.length < num y then (0, none) else (num y, some (l2, f2))) = (n, some (r, f')) := h
      split at h'
      · cases h'
      · rename_i hl
        obtain ⟨e1, e2⟩ := Prod.mk.inj h'
        injection e2 with e2
        obtain ⟨e2, e3⟩ := Prod.mk.inj e2
        subst e2
        refine ⟨by rw [k1, ← e1, word_num y k2], by rw [← e1]; omega, by rw [← e3, k3], ?_⟩
        have hn := Ly.num_lt 8 y k2
        rw [← e1]
        unfold isC
        simpa using hn
theorem cntS_none : cntS none = (0, none) := rfl
def isT (t : Row) : Prop := isC t.length
theorem cod_txt : Cod txtS text isT where
  back := fun {x} ho r f => by
    unfold txtS text
    rw [List.append_assoc, cntS_back ho _ _ (by rw [List.length_append]; omega)]
    exact takeS_back x r f
  only := fun {l f x r f'} e hf => by
    unfold txtS at e
    cases hs : cntS (some (l, f)) with
    | mk n s =>
      rw [hs] at e
      cases s with
      | none => cases e
      | some y =>
        obtain ⟨l2, f2⟩ := y
        obtain ⟨k1, k2, k3, k4⟩ := cntS_some hs
        obtain ⟨j1, j2, j3⟩ := takeS_some e
        refine ⟨by rw [← k3, ← j3]; exact hf, ?_⟩
        unfold text
        rw [k1, j1, j2, List.append_assoc]
  ext := fun {l f x r f'} t e => by
    unfold txtS at e ⊢
    cases hs : cntS (some (l, f)) with
    | mk n s =>
      rw [hs] at e
      cases s with
      | none => cases e
      | some y =>
        obtain ⟨l2, f2⟩ := y
        obtain ⟨k1, k2, k3, k4⟩ := cntS_some hs
        obtain ⟨j1, j2, j3⟩ := takeS_some e
        rw [k1, List.append_assoc, cntS_back k4 _ _ (by rw [List.length_append]; omega), j1, List.append_assoc]
        have hb := takeS_back x (r ++ t) f
        rw [j2] at hb
        rw [j3, k3]
        exact hb
  gone := rfl
theorem lst_none {α : Type} (get : St → α × St) : ∀ n, lstS get n none = ([], none)
  | 0 => rfl
  | n + 1 => rfl
theorem lst_back {α : Type} {get : St → α × St} {put : α → Row} {ok : α → Prop} (h : Cod get put ok) : ∀ (xs : List α), (∀ x ∈ xs, ok x) → ∀ r f, lstS get xs.length (some ((xs.map put).flatten ++ r, f)) = (xs, some (r, f))
  | [], _, r, f => rfl
  | x :: xs, ho, r, f => by
    have h1 := h.back (ho x (by simp)) ((xs.map put).flatten ++ r) f
    show ((get (some (put x ++ (xs.map put).flatten ++ r, f))).1 :: (lstS get xs.length (get (some (put x ++ (xs.map put).flatten ++ r, f))).2).1, (lstS get xs.length (get (some (put x ++ (xs.map put).flatten ++ r, f))).2).2) = _
    rw [List.append_assoc, h1]
    simp only
    rw [lst_back h xs (fun y hy => ho y (by simp [hy])) r f]
theorem lst_some {α : Type} {get : St → α × St} {put : α → Row} {ok : α → Prop} (h : Cod get put ok) : ∀ (n : Nat) {l f xs r f'}, lstS get n (some (l, f)) = (xs, some (r, f')) → xs.length = n ∧ (f' = false → f = false ∧ l = (xs.map put).flatten ++ r)
  | 0, l, f, xs, r, f', e => by
    obtain ⟨e1, e2⟩ := Prod.mk.inj e
    injection e2 with e2
    obtain ⟨e2, e3⟩ := Prod.mk.inj e2
    subst e1 e2 e3
    exact ⟨rfl, fun hf => ⟨hf, rfl⟩⟩
  | n + 1, l, f, xs, r, f', e => by
    have e' : ((get (some (l, f))).1 :: (lstS get n (get (some (l, f))).2).1, (lstS get n (get (some (l, f))).2).2) = (xs, some (r, f')) := e
    obtain ⟨e1, e2⟩ := Prod.mk.inj e'
    cases hs : (get (some (l, f))).2 with
    | none =>
      rw [hs, lst_none] at e2
      cases e2
    | some y =>
      obtain ⟨l2, f2⟩ := y
      rw [hs] at e1 e2
      have hq : lstS get n (some (l2, f2)) = ((lstS get n (some (l2, f2))).1, some (r, f')) := by rw [← e2]
      have hg : get (some (l, f)) = ((get (some (l, f))).1, some (l2, f2)) := by rw [← hs]
      obtain ⟨k1, k2⟩ := lst_some h n hq
      refine ⟨by rw [← e1, List.length_cons, k1], fun hf => ?_⟩
      obtain ⟨k3, k4⟩ := k2 hf
      obtain ⟨k5, k6⟩ := h.only hg k3
      refine ⟨k5, ?_⟩
      rw [← e1, List.map_cons, List.flatten_cons, List.append_assoc, ← k4]
      exact k6
theorem lst_ext {α : Type} {get : St → α × St} {put : α → Row} {ok : α → Prop} (h : Cod get put ok) : ∀ (n : Nat) {l f xs r f'} (t : Row), lstS get n (some (l, f)) = (xs, some (r, f')) → lstS get n (some (l ++ t, f)) = (xs, some (r ++ t, f'))
  | 0, l, f, xs, r, f', t, e => by
    obtain ⟨e1, e2⟩ := Prod.mk.inj e
    injection e2 with e2
    obtain ⟨e2, e3⟩ := Prod.mk.inj e2
    subst e1 e2 e3
    rfl
  | n + 1, l, f, xs, r, f', t, e => by
    have e' : ((get (some (l, f))).1 :: (lstS get n (get (some (l, f))).2).1, (lstS get n (get (some (l, f))).2).2) = (xs, some (r, f')) := e
    obtain ⟨e1, e2⟩ := Prod.mk.inj e'
    cases hs : (get (some (l, f))).2 with
    | none =>
      rw [hs, lst_none] at e2
      cases e2
    | some y =>
      obtain ⟨l2, f2⟩ := y
      rw [hs] at e1 e2
      have hq : lstS get n (some (l2, f2)) = ((lstS get n (some (l2, f2))).1, some (r, f')) := by rw [← e2]
      have hg : get (some (l, f)) = ((get (some (l, f))).1, some (l2, f2)) := by rw [← hs]
      have hx := h.ext t hg
      have hy := lst_ext h n t hq
      show ((get (some (l ++ t, f))).1 :: (lstS get n (get (some (l ++ t, f))).2).1, (lstS get n (get (some (l ++ t, f))).2).2) = _
      rw [hx]
      simp only
      rw [hy, ← e1]
theorem flat_len {α : Type} {put : α → Row} (h : ∀ x, 1 ≤ (put x).length) : ∀ xs : List α, xs.length ≤ ((xs.map put).flatten).length
  | [] => Nat.le_refl _
  | x :: xs => by
    have h1 := h x
    have h2 := flat_len h xs
    rw [List.map_cons, List.flatten_cons, List.length_append, List.length_cons]
    omega
theorem cod_row {α : Type} {get : St → α × St} {put : α → Row} {ok : α → Prop} (h : Cod get put ok) (hp : ∀ x, 1 ≤ (put x).length) : Cod (rowS get) (rows put) (fun xs => isC xs.length ∧ ∀ x ∈ xs, ok x) where
  back := fun {xs} ho r f => by
    unfold rowS rows
    have := flat_len hp xs
    rw [List.append_assoc, cntS_back ho.1 _ _ (by rw [List.length_append]; omega)]
    exact lst_back h xs ho.2 r f
  only := fun {l f x r f'} e hf => by
    unfold rowS at e
    cases hs : cntS (some (l, f)) with
    | mk n s =>
      rw [hs] at e
      cases s with
      | none => rw [lst_none] at e; cases e
      | some y =>
        obtain ⟨l2, f2⟩ := y
        obtain ⟨k1, k2, k3, k4⟩ := cntS_some hs
        obtain ⟨j1, j2⟩ := lst_some h n e
        obtain ⟨j3, j4⟩ := j2 hf
        refine ⟨by rw [← k3]; exact j3, ?_⟩
        unfold rows
        rw [k1, j4, j1, List.append_assoc]
  ext := fun {l f x r f'} t e => by
    unfold rowS at e ⊢
    cases hs : cntS (some (l, f)) with
    | mk n s =>
      rw [hs] at e
      cases s with
      | none => rw [lst_none] at e; cases e
      | some y =>
        obtain ⟨l2, f2⟩ := y
        obtain ⟨k1, k2, k3, k4⟩ := cntS_some hs
        rw [k1, List.append_assoc, cntS_back k4 _ _ (by rw [List.length_append]; omega)]
        have := lst_ext h n t e
        rw [k3] at this
        exact this
  gone := by unfold rowS; rw [cntS_none, lst_none]
theorem byt_one (x : UInt8) (r : Row) (f : Bool) : bytS (some (x :: r, f)) = (x.toNat, some (r, f)) := by
  have h := takeS_back [x] r f
  unfold bytS
  rw [show x :: r = [x] ++ r from rfl, show (1 : Nat) = [x].length from rfl, h]
  simp [num]
theorem byt_nil (f : Bool) : bytS (some ([], f)) = (0, none) := rfl
theorem byt_none : bytS none = (0, none) := rfl
theorem cod_flg : Cod flgS flag (fun _ => True) where
  back := fun {x} _ r f => by
    cases x
    · show flgS (some ((0 : UInt8) :: r, f)) = _
      unfold flgS
      rw [byt_one]
      simp [wrong]
    · show flgS (some ((1 : UInt8) :: r, f)) = _
      unfold flgS
      rw [byt_one]
      simp [wrong]
  only := fun {l f x r f'} e hf => by
    unfold flgS at e
    cases l with
    | nil => rw [byt_nil] at e; cases e
    | cons b l =>
      rw [byt_one] at e
      obtain ⟨e1, e2⟩ := Prod.mk.inj e
      simp only [wrong] at e2
      injection e2 with e2
      obtain ⟨e2, e3⟩ := Prod.mk.inj e2
      rw [hf] at e3
      rw [Bool.or_eq_false_iff] at e3
      refine ⟨e3.1, ?_⟩
      have hb : ¬ 1 < b.toNat := by simpa using e3.2
      subst e2
      unfold flag
      rw [← e1]
      rcases Nat.lt_or_ge b.toNat 1 with h0 | h0
      · obtain rfl : b = 0 := UInt8.toNat_inj.1 (by show b.toNat = 0; omega)
        rfl
      · obtain rfl : b = 1 := UInt8.toNat_inj.1 (by show b.toNat = 1; omega)
        rfl
  ext := fun {l f x r f'} t e => by
    unfold flgS at e ⊢
    cases l with
    | nil => rw [byt_nil] at e; cases e
    | cons b l =>
      rw [byt_one] at e
      rw [List.cons_append, byt_one]
      obtain ⟨e1, e2⟩ := Prod.mk.inj e
      simp only [wrong] at e2 ⊢
      injection e2 with e2
      obtain ⟨e2, e3⟩ := Prod.mk.inj e2
      rw [← e1, ← e2, ← e3]
  gone := rfl
theorem text_pos (t : Row) : 1 ≤ (text t).length := by unfold text; rw [List.length_append, word_len]; omega
theorem wrd_pos (z : Int) : 1 ≤ (wrd z).length := by rw [wrd_len]; decide
theorem enB_pos (e : En) : 1 ≤ (enB e).length := by unfold enB; have := text_pos e.name; rw [List.length_append]; omega
def okCom (c : Com) : Prop := is64 c.op ∧ isT c.book ∧ isT c.name ∧ isT c.data ∧ isT c.mat ∧ isT c.non ∧ isT c.tok ∧ (isC c.names.length ∧ ∀ x ∈ c.names, isT x) ∧ is64 c.pos ∧ is64 c.ses ∧ is64 c.seq
def okEn (e : En) : Prop := isT e.name ∧ is64 e.tag ∧ isT e.data ∧ True
def okRep (r : Rep) : Prop := is64 r.st ∧ is64 r.tag ∧ isT r.data ∧ (isC r.ents.length ∧ ∀ x ∈ r.ents, okEn x) ∧ isT r.tok
theorem cod_com : Cod comS comB okCom :=
  (cod_int.seq (cod_txt.seq (cod_txt.seq (cod_txt.seq (cod_txt.seq (cod_txt.seq (cod_txt.seq ((cod_row cod_txt text_pos).seq (cod_int.seq (cod_int.seq cod_int)))))))))).map
    (fun x => (⟨x.1, x.2.1, x.2.2.1, x.2.2.2.1, x.2.2.2.2.1, x.2.2.2.2.2.1, x.2.2.2.2.2.2.1, x.2.2.2.2.2.2.2.1, x.2.2.2.2.2.2.2.2.1, x.2.2.2.2.2.2.2.2.2.1, x.2.2.2.2.2.2.2.2.2.2⟩ : Com))
    (fun c => (c.op, c.book, c.name, c.data, c.mat, c.non, c.tok, c.names, c.pos, c.ses, c.seq)) (fun _ => rfl) (fun _ => rfl)
theorem cod_en : Cod enS enB okEn :=
  (cod_txt.seq (cod_int.seq (cod_txt.seq cod_flg))).map (fun x => (⟨x.1, x.2.1, x.2.2.1, x.2.2.2⟩ : En)) (fun e => (e.name, e.tag, e.data, e.gone)) (fun _ => rfl) (fun _ => rfl)
theorem cod_rep : Cod repS repB okRep :=
  (cod_int.seq (cod_int.seq (cod_txt.seq ((cod_row cod_en enB_pos).seq cod_txt)))).map (fun x => (⟨x.1, x.2.1, x.2.2.1, x.2.2.2.1, x.2.2.2.2⟩ : Rep)) (fun r => (r.st, r.tag, r.data, r.ents, r.tok)) (fun _ => rfl) (fun _ => rfl)
theorem cod_nodes : Cod (rowS intS) (rows wrd) (fun xs => isC xs.length ∧ ∀ x ∈ xs, is64 x) := cod_row cod_int wrd_pos
/-- what is cut off ends too early -/
theorem Cod.cut {α : Type} {get : St → α × St} {put : α → Row} {ok : α → Prop} (h : Cod get put ok) {x : α} (ho : ok x) {p t : Row} (he : p ++ t = put x) (ht : t ≠ []) : (get (some (p, false))).2 = none := by
  cases hs : (get (some (p, false))).2 with
  | none => rfl
  | some y =>
    obtain ⟨r, f⟩ := y
    have hg : get (some (p, false)) = ((get (some (p, false))).1, some (r, f)) := by rw [← hs]
    have h1 := h.ext t hg
    have h2 := h.back ho [] false
    rw [List.append_nil, ← he, h1] at h2
    obtain ⟨_, h3⟩ := Prod.mk.inj h2
    injection h3 with h3
    obtain ⟨h3, _⟩ := Prod.mk.inj h3
    have := (List.append_eq_nil_iff.1 h3).2
    exact absurd this ht
/-- unlike values have unlike bytes -/
theorem Cod.inj {α : Type} {get : St → α × St} {put : α → Row} {ok : α → Prop} (h : Cod get put ok) {x y : α} (hx : ok x) (hy : ok y) (he : put x = put y) : x = y := by
  have h1 := h.back hx [] false
  have h2 := h.back hy [] false
  rw [he, h2] at h1
  exact (Prod.mk.inj h1).1.symm
theorem Cod.whole {α : Type} {get : St → α × St} {put : α → Row} {ok : α → Prop} (h : Cod get put ok) {x : α} (hx : ok x) : get (some (put x, false)) = (x, some ([], false)) := by
  have h1 := h.back hx [] false
  rw [List.append_nil] at h1
  exact h1
/-- where nothing was wrong, the bytes are the value's -/
theorem Cod.form {α : Type} {get : St → α × St} {put : α → Row} {ok : α → Prop} (h : Cod get put ok) {l : Row} (he : endS (get (some (l, false))).2 = 0) : l = put (get (some (l, false))).1 := by
  cases hs : (get (some (l, false))).2 with
  | none => rw [hs] at he; cases he
  | some y =>
    obtain ⟨r, f⟩ := y
    rw [hs] at he
    have hg : get (some (l, false)) = ((get (some (l, false))).1, some (r, f)) := by rw [← hs]
    unfold endS at he
    simp only at he
    split at he
    · cases he
    · rename_i h0
      obtain rfl : r = [] := List.eq_nil_of_length_eq_zero (by omega)
      split at he
      · cases he
      · rename_i h1
        have := (h.only hg (by simpa using h1)).2
        rw [List.append_nil] at this
        exact this
end Go.Proofs.Ytpngbfmbjldieaa.Cd
