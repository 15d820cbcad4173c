import Derived.Test.YtmmpojhjpghdlaaGreatDoorMg3
import Derived.Shelf.GgClosure.Gives
import Derived.Lib.AppendStr
import Derived.Lib.UnsafeStr
import Derived.Lib.AppendIntMem
import Derived.Laws.OwnMore
import Derived.Laws.BytesArg
import Derived.Laws.IdiomStrings
import Derived.Test.YtmmpojhjpghdlaaGreatDoorMg2
import Derived.Test.YtmmpojhjpghdlaaGreatDoorMg1
import Derived.Lib.Hide
import Derived.WalkMore
import Derived.LoopTactic
import Derived.Laws.MakeOwn

/-
  PLAIN LAWS OF LAYER dav: what is told as pieces ('pcT'), that the pieces are a document's ('right_told'), that no two good ones have the same pieces ('pcT_inj').
-/
set_option linter.unusedVariables false
namespace Go.Proofs.YtmmpojhjpghdlaaGreatDoor.Dv
open Go.Proofs.YtmmpojhjpghdlaaGreatDoor.Xm

structure It where
  href : Row
  gone : Bool
  tag : Row
  data : Row
  book : Bool
  deriving DecidableEq
structure Td where
  items : List It
  token : Row
  deriving DecidableEq
def opn (s : Int) (n : Row) : Pc := ⟨1, s, n, []⟩
def cls (s : Int) (n : Row) : Pc := ⟨2, s, n, []⟩
def el (s : Int) (n : Row) (w : List Pc) : List Pc := opn s n :: (w ++ [cls s n])
def full (s : Int) (n t : Row) : List Pc := el s n [⟨3, 0, [], t⟩]
def hrefS : Row := [104, 114, 101, 102]
def statusS : Row := [115, 116, 97, 116, 117, 115]
def etagS : Row := [103, 101, 116, 101, 116, 97, 103]
def addrS : Row := [97, 100, 100, 114, 101, 115, 115, 45, 100, 97, 116, 97]
def rtypeS : Row := [114, 101, 115, 111, 117, 114, 99, 101, 116, 121, 112, 101]
def collS : Row := [99, 111, 108, 108, 101, 99, 116, 105, 111, 110]
def abookS : Row := [97, 100, 100, 114, 101, 115, 115, 98, 111, 111, 107]
def propS : Row := [112, 114, 111, 112]
def pstatS : Row := [112, 114, 111, 112, 115, 116, 97, 116]
def respS : Row := [114, 101, 115, 112, 111, 110, 115, 101]
def mstatS : Row := [109, 117, 108, 116, 105, 115, 116, 97, 116, 117, 115]
def stokS : Row := [115, 121, 110, 99, 45, 116, 111, 107, 101, 110]
def s404 : Row := [72, 84, 84, 80, 47, 49, 46, 49, 32, 52, 48, 52, 32, 78, 111, 116, 32, 70, 111, 117, 110, 100]
def s200 : Row := [72, 84, 84, 80, 47, 49, 46, 49, 32, 50, 48, 48, 32, 79, 75]
def opt (s : Int) (n t : Row) : List Pc := if t = [] then [] else full s n t
def bookP (b : Bool) : List Pc := if b = true then el 1 rtypeS (el 1 collS [] ++ el 2 abookS []) else []
def pcP (i : It) : List Pc := opt 1 etagS i.tag ++ (opt 2 addrS i.data ++ bookP i.book)
def pcS (i : It) : List Pc := if i.gone = true then full 1 statusS s404 else el 1 pstatS (el 1 propS (pcP i) ++ full 1 statusS s200)
def pcI (i : It) : List Pc := el 1 respS (full 1 hrefS i.href ++ pcS i)
def pcs (is : List It) : List Pc := is.flatMap pcI
def pcT (t : Td) : List Pc := el 1 mstatS (pcs t.items ++ opt 1 stokS t.token)
/-- may it stand as characters, or be empty? -/
def txt (s : Row) : Bool := Ch.valid s && (s.isEmpty || !blanks s)
def goodI (i : It) : Bool := !i.href.isEmpty && (txt i.href && (txt i.tag && (txt i.data && !(i.gone && (!i.tag.isEmpty || (!i.data.isEmpty || i.book))))))
def goodT (t : Td) : Bool := txt t.token && t.items.all goodI

/-! ### they are a document's -/
def Fits (k : Nat) (w : List Pc) : Prop := ∀ (st : List (Row × Int)) (r : List Pc), st ≠ [] → st.length + k ≤ 16 → rgt false false st (w ++ r) = rgt false false st r
theorem fits_nil (k : Nat) : Fits k [] := fun st r _ _ => rfl
theorem Fits.app {k : Nat} {a b : List Pc} (h : Fits k a) (g : Fits k b) : Fits k (a ++ b) := fun st r h0 h1 => by rw [List.append_assoc, h st _ h0 h1, g st r h0 h1]
theorem Fits.mono {k j : Nat} {a : List Pc} (h : Fits k a) (hj : k ≤ j) : Fits j a := fun st r h0 h1 => h st r h0 (by omega)
theorem rgt_opn {c : Bool} {s : Int} {n : Row} {st : List (Row × Int)} {r : List Pc} (h : okTag (opn s n) = true) (h0 : st ≠ []) (h1 : st.length < 16) : rgt false c st (opn s n :: r) = rgt false false ((n, s) :: st) r := by
  have e : st.isEmpty = false := by cases st with | nil => exact absurd rfl h0 | cons => rfl
  rw [show rgt false c st (opn s n :: r) = ((false || !st.isEmpty) && (okTag (opn s n) && decide (st.length < 16) && rgt false false ((n, s) :: st) r)) from rfl, h, e, decide_eq_true h1]
  rfl
theorem rgt_cls {c : Bool} {s : Int} {n : Row} {st : List (Row × Int)} {r : List Pc} (h : okTag (cls s n) = true) : rgt false c ((n, s) :: st) (cls s n :: r) = rgt false false st r := by
  rw [show rgt false c ((n, s) :: st) (cls s n :: r) = (true && (okTag (cls s n) && (decide ((n, s) = (n, s)) && rgt false false st r))) from rfl, h, decide_eq_true rfl]
  rfl
theorem rgt_chr {s : Int} {t : Row} {st : List (Row × Int)} {r : List Pc} (h : okTxt ⟨3, 0, [], t⟩ = true) (h0 : st ≠ []) : rgt false false st (⟨3, 0, [], t⟩ :: r) = rgt false true st r := by
  have e : st.isEmpty = false := by cases st with | nil => exact absurd rfl h0 | cons => rfl
  rw [show rgt false false st (⟨3, 0, [], t⟩ :: r) = ((false || !st.isEmpty) && (!false && !false && okTxt ⟨3, 0, [], t⟩ && rgt false true st r)) from rfl, h, e]
  rfl
theorem Fits.el {k : Nat} {s : Int} {n : Row} {w : List Pc} (h : Fits k w) (ho : okTag (opn s n) = true) (hc : okTag (cls s n) = true) : Fits (k + 1) (el s n w) := fun st r h0 h1 => by
  show rgt false false st (opn s n :: ((w ++ [cls s n]) ++ r)) = _
  rw [rgt_opn ho h0 (by omega), List.append_assoc, h _ _ (by simp) (by simp only [List.length_cons]; omega)]
  exact rgt_cls hc
theorem fits_full {s : Int} {n t : Row} (ht : okTxt ⟨3, 0, [], t⟩ = true) (ho : okTag (opn s n) = true) (hc : okTag (cls s n) = true) : Fits 1 (full s n t) := fun st r h0 h1 => by
  show rgt false false st (opn s n :: (⟨3, 0, [], t⟩ :: (cls s n :: r))) = _
  rw [rgt_opn ho h0 (by omega), rgt_chr (s := s) ht (by simp)]
  exact rgt_cls hc
theorem ok_txt {t : Row} (h : txt t = true) (h0 : t ≠ []) : okTxt ⟨3, 0, [], t⟩ = true := by
  unfold txt at h
  unfold okTxt
  have e : t.isEmpty = false := by cases t with | nil => exact absurd rfl h0 | cons => rfl
  rw [e] at h
  simpa using h
theorem fits_opt {s : Int} {n t : Row} (ht : txt t = true) (ho : okTag (opn s n) = true) (hc : okTag (cls s n) = true) : Fits 1 (opt s n t) := by
  unfold opt
  by_cases h0 : t = []
  · rw [if_pos h0]; exact fits_nil 1
  · rw [if_neg h0]; exact fits_full (ok_txt ht h0) ho hc
theorem fits_book (b : Bool) : Fits 2 (bookP b) := by
  unfold bookP
  cases b
  · exact fits_nil 2
  · exact (((fits_nil 0).el (s := 1) (n := collS) (by decide) (by decide)).app ((fits_nil 0).el (s := 2) (n := abookS) (by decide) (by decide))).el (by decide) (by decide)
theorem goodI_parts {i : It} (h : goodI i = true) : i.href ≠ [] ∧ txt i.href = true ∧ txt i.tag = true ∧ txt i.data = true ∧ (i.gone = true → i.tag = [] ∧ i.data = [] ∧ i.book = false) := by
  unfold goodI at h
  simp only [Bool.and_eq_true, Bool.not_eq_true'] at h
  obtain ⟨h1, h2, h3, h4, h5⟩ := h
  refine ⟨fun e => (by rw [e] at h1; cases h1), h2, h3, h4, fun hg => ?_⟩
  rw [hg] at h5
  simp only [Bool.true_and, Bool.or_eq_false_iff, Bool.not_eq_false', List.isEmpty_iff] at h5
  exact ⟨h5.1, h5.2.1, h5.2.2⟩
theorem fits_item {i : It} (h : goodI i = true) : Fits 5 (pcI i) := by
  obtain ⟨h1, h2, h3, h4, h5⟩ := goodI_parts h
  have hs : Fits 4 (pcS i) := by
    unfold pcS
    split
    · exact (fits_full (ok_txt (by decide +kernel) (by decide)) (by decide) (by decide)).mono (by omega)
    · have hp : Fits 2 (pcP i) := ((fits_opt h3 (by decide) (by decide)).mono (by omega)).app (((fits_opt h4 (by decide) (by decide)).mono (by omega)).app (fits_book i.book))
      exact ((hp.el (by decide) (by decide)).app ((fits_full (ok_txt (by decide +kernel) (by decide)) (by decide) (by decide)).mono (by omega))).el (by decide) (by decide)
  exact (((fits_full (ok_txt h2 h1) (by decide) (by decide)).mono (by omega)).app hs).el (by decide) (by decide)
theorem fits_items : ∀ {is : List It}, is.all goodI = true → Fits 5 (pcs is)
  | [], _ => fits_nil 5
  | i :: is, h => by
    simp only [List.all_cons, Bool.and_eq_true] at h
    exact (fits_item h.1).app (fits_items h.2)
theorem right_el {k : Nat} {s : Int} {n : Row} {w : List Pc} (h : Fits k w) (hk : k ≤ 15) (ho : okTag (opn s n) = true) (hc : okTag (cls s n) = true) : right (el s n w) = true := by
  unfold right
  show rgt true false [] (opn s n :: (w ++ [cls s n])) = true
  rw [show rgt true false [] (opn s n :: (w ++ [cls s n])) = (true && (okTag (opn s n) && true && rgt false false [(n, s)] (w ++ [cls s n]))) from rfl, ho, Bool.true_and, Bool.true_and, Bool.true_and]
  rw [h [(n, s)] _ (by simp) (by simp; omega)]
  rw [rgt_cls hc]
  rfl
theorem right_told {t : Td} (h : goodT t = true) : right (pcT t) = true := by
  unfold goodT at h
  simp only [Bool.and_eq_true] at h
  exact right_el (k := 5) ((fits_items h.2).app ((fits_opt h.1 (by decide) (by decide)).mono (by omega))) (by omega) (by decide) (by decide)

/-! ### no two good ones have the same pieces -/
def headN (X : List Pc) : Option (Int × Int × Row) := X.head?.map fun p => (p.kind, p.space, p.name)
theorem full_inj {s : Int} {n a b : Row} {X Y : List Pc} (h : full s n a ++ X = full s n b ++ Y) : a = b ∧ X = Y := by
  unfold full el at h
  simp only [List.cons_append, List.nil_append, List.cons.injEq, Pc.mk.injEq, true_and] at h
  exact ⟨h.1, h.2⟩
theorem full_head {s : Int} {n a : Row} {X : List Pc} : headN (full s n a ++ X) = some (1, s, n) := rfl
theorem el_head {s : Int} {n : Row} {w X : List Pc} : headN (el s n w ++ X) = some (1, s, n) := rfl
theorem opt_inj {s : Int} {n a b : Row} {X Y : List Pc} (hX : headN X ≠ some (1, s, n)) (hY : headN Y ≠ some (1, s, n)) (h : opt s n a ++ X = opt s n b ++ Y) : a = b ∧ X = Y := by
  unfold opt at h
  by_cases ha : a = []
  · rw [if_pos ha] at h
    by_cases hb : b = []
    · rw [if_pos hb] at h
      exact ⟨by rw [ha, hb], h⟩
    · rw [if_neg hb, List.nil_append] at h
      exact absurd (by rw [h]; exact full_head) hX
  · rw [if_neg ha] at h
    by_cases hb : b = []
    · rw [if_pos hb, List.nil_append] at h
      exact absurd (by rw [← h]; exact full_head) hY
    · rw [if_neg hb] at h
      exact full_inj h
theorem opt_head {s : Int} {n a : Row} {X : List Pc} : headN (opt s n a ++ X) = some (1, s, n) ∨ headN (opt s n a ++ X) = headN X := by
  unfold opt
  split
  · exact .inr rfl
  · exact .inl rfl
theorem book_head {b : Bool} {X : List Pc} : headN (bookP b ++ X) = some (1, 1, rtypeS) ∨ headN (bookP b ++ X) = headN X := by
  unfold bookP
  cases b
  · exact .inr rfl
  · exact .inl rfl
theorem book_inj {b c : Bool} {X Y : List Pc} (hX : headN X ≠ some (1, 1, rtypeS)) (hY : headN Y ≠ some (1, 1, rtypeS)) (h : bookP b ++ X = bookP c ++ Y) : b = c ∧ X = Y := by
  cases b <;> cases c
  · exact ⟨rfl, h⟩
  · exact absurd (by rw [show X = bookP true ++ Y from h]; rfl) hX
  · exact absurd (by rw [← show bookP true ++ X = Y from h]; rfl) hY
  · exact ⟨rfl, List.append_cancel_left h⟩
theorem props_inj {i j : It} {X Y : List Pc} (h : pcP i ++ cls 1 propS :: X = pcP j ++ cls 1 propS :: Y) : i.tag = j.tag ∧ i.data = j.data ∧ i.book = j.book ∧ X = Y := by
  have hd : ∀ (Z : List Pc), headN (cls 1 propS :: Z) = some (2, 1, propS) := fun _ => rfl
  have hb : ∀ (k : It) (Z : List Pc), headN (bookP k.book ++ cls 1 propS :: Z) ≠ some (1, 2, addrS) := fun k Z => by
    rcases book_head (b := k.book) (X := cls 1 propS :: Z) with e | e
    · rw [e]; decide
    · rw [e, hd]; decide
  have ha : ∀ (k : It) (Z : List Pc), headN (opt 2 addrS k.data ++ (bookP k.book ++ cls 1 propS :: Z)) ≠ some (1, 1, etagS) := fun k Z => by
    rcases opt_head (s := 2) (n := addrS) (a := k.data) (X := bookP k.book ++ cls 1 propS :: Z) with e | e
    · rw [e]; decide
    · rw [e]
      rcases book_head (b := k.book) (X := cls 1 propS :: Z) with e | e
      · rw [e]; decide
      · rw [e, hd]; decide
  unfold pcP at h
  simp only [List.append_assoc] at h
  obtain ⟨h1, h⟩ := opt_inj (ha i X) (ha j Y) h
  obtain ⟨h2, h⟩ := opt_inj (hb i X) (hb j Y) h
  obtain ⟨h3, h⟩ := book_inj (by rw [hd]; decide) (by rw [hd]; decide) h
  exact ⟨h1, h2, h3, (List.cons.inj h).2⟩
theorem item_inj {i j : It} {X Y : List Pc} (hi : goodI i = true) (hj : goodI j = true) (h : pcI i ++ X = pcI j ++ Y) : i = j ∧ X = Y := by
  obtain ⟨_, _, _, _, gi⟩ := goodI_parts hi
  obtain ⟨_, _, _, _, gj⟩ := goodI_parts hj
  unfold pcI el at h
  simp only [List.cons_append, List.append_assoc, List.nil_append, List.cons.injEq, true_and] at h
  obtain ⟨h1, h⟩ := full_inj h
  unfold pcS at h
  obtain ⟨hr, ga, ta, da, ba⟩ := i
  obtain ⟨hr', gb, tb, db, bb⟩ := j
  simp only at h1 gi gj h
  subst h1
  cases ga <;> cases gb
  · simp only [Bool.false_eq_true, if_false] at h
    unfold el at h
    simp only [List.cons_append, List.append_assoc, List.nil_append, List.cons.injEq, true_and] at h
    obtain ⟨e1, e2, e3, h'⟩ := props_inj h
    simp only at e1 e2 e3
    have h2 := (full_inj h').2
    subst e1 e2 e3
    exact ⟨rfl, (List.cons.inj (List.cons.inj h2).2).2⟩
  · simp only [Bool.false_eq_true, if_false, if_true] at h
    have := congrArg headN h
    rw [el_head, full_head] at this
    exact absurd this (by decide)
  · simp only [Bool.false_eq_true, if_false, if_true] at h
    have := congrArg headN h
    rw [el_head, full_head] at this
    exact absurd this (by decide)
  · simp only [if_true] at h
    have h2 := (full_inj h).2
    obtain ⟨rfl, rfl, rfl⟩ := gi rfl
    obtain ⟨rfl, rfl, rfl⟩ := gj rfl
    exact ⟨rfl, (List.cons.inj h2).2⟩
theorem items_inj : ∀ {is js : List It} {a b : Row}, is.all goodI = true → js.all goodI = true → pcs is ++ (opt 1 stokS a ++ [cls 1 mstatS]) = pcs js ++ (opt 1 stokS b ++ [cls 1 mstatS]) → is = js ∧ a = b
  | [], [], a, b, _, _, h => ⟨rfl, (opt_inj (by decide) (by decide) h).1⟩
  | [], j :: js, a, b, _, _, h => by
    have hh := congrArg headN h
    rw [show headN (pcs (j :: js) ++ (opt 1 stokS b ++ [cls 1 mstatS])) = some (1, 1, respS) from rfl] at hh
    rcases opt_head (s := 1) (n := stokS) (a := a) (X := [cls 1 mstatS]) with e | e
    · exact absurd (e.symm.trans hh) (by decide)
    · exact absurd (e.symm.trans hh) (by decide)
  | i :: is, [], a, b, _, _, h => by
    have hh := congrArg headN h
    rw [show headN (pcs (i :: is) ++ (opt 1 stokS a ++ [cls 1 mstatS])) = some (1, 1, respS) from rfl] at hh
    rcases opt_head (s := 1) (n := stokS) (a := b) (X := [cls 1 mstatS]) with e | e
    · exact absurd (e.symm.trans hh.symm) (by decide)
    · exact absurd (e.symm.trans hh.symm) (by decide)
  | i :: is, j :: js, a, b, hi, hj, h => by
    simp only [List.all_cons, Bool.and_eq_true] at hi hj
    rw [show pcs (i :: is) = pcI i ++ pcs is from rfl, show pcs (j :: js) = pcI j ++ pcs js from rfl, List.append_assoc, List.append_assoc] at h
    obtain ⟨e1, h⟩ := item_inj hi.1 hj.1 h
    obtain ⟨e2, e3⟩ := items_inj hi.2 hj.2 h
    exact ⟨by rw [e1, e2], e3⟩
theorem pcT_inj {t u : Td} (ht : goodT t = true) (hu : goodT u = true) (h : pcT t = pcT u) : t = u := by
  unfold goodT at ht hu
  simp only [Bool.and_eq_true] at ht hu
  unfold pcT el at h
  simp only [List.cons.injEq, true_and, List.append_assoc] at h
  obtain ⟨e1, e2⟩ := items_inj ht.2 hu.2 h
  obtain ⟨a, b⟩ := t
  obtain ⟨c, d⟩ := u
  simp only at e1 e2
  rw [e1, e2]

/-! ### printed, and read back -/
def printT (t : Td) : Row × Int := if goodT t = false then ([], 90) else if 65536 < (prX (pcT t)).length then ([], 11) else (prX (pcT t), 0)
/-- what is read of a text: itself, if it is told; else nothing, and why -/
def ReadT (s : Row) (t : Td) (e : Int) : Prop :=
  ((parseX s).2 ≠ 0 ∧ t = ⟨[], []⟩ ∧ e = (parseX s).2) ∨
  ((parseX s).2 = 0 ∧ t = ⟨[], []⟩ ∧ e = 90 ∧ ∀ u, goodT u = true → pcT u ≠ (parseX s).1) ∨
  ((parseX s).2 = 0 ∧ e = 0 ∧ goodT t = true ∧ pcT t = (parseX s).1)
theorem parse_told {t : Td} (h : goodT t = true) (hl : (prX (pcT t)).length ≤ 65536) : parseX (prX (pcT t)) = (pcT t, 0) := by
  unfold parseX
  rw [if_neg (by omega), if_neg (by rw [valid_pr (right_told h)]; decide), doc_pr (right_told h)]
theorem read_back {t u : Td} {e : Int} (h : goodT t = true) (hl : (prX (pcT t)).length ≤ 65536) (hr : ReadT (prX (pcT t)) u e) : u = t ∧ e = 0 := by
  unfold ReadT at hr
  rw [parse_told h hl] at hr
  rcases hr with ⟨h1, _⟩ | ⟨_, _, _, h4⟩ | ⟨_, h2, h3, h4⟩
  · exact absurd rfl h1
  · exact absurd rfl (h4 t h)
  · exact ⟨pcT_inj h3 h h4, h2⟩
end Go.Proofs.YtmmpojhjpghdlaaGreatDoor.Dv

/-
  PLAIN LAWS OF LAYER dav: documents as trees ('El', 'pcE'), which tree is told ('trT'), what is found in it ('toldP'): found is what was told; only good ones are right.
-/
set_option linter.unusedVariables false
namespace Go.Proofs.YtmmpojhjpghdlaaGreatDoor.Dv
open Go.Proofs.YtmmpojhjpghdlaaGreatDoor.Xm

inductive El where
  | mk (s : Int) (n t : Row) (ks : List El)
def El.s : El → Int | .mk s _ _ _ => s
def El.n : El → Row | .mk _ n _ _ => n
def El.t : El → Row | .mk _ _ t _ => t
def El.ks : El → List El | .mk _ _ _ ks => ks
def El.zero : El := .mk 0 [] [] []
def chrs (t : Row) : List Pc := if t = [] then [] else [⟨3, 0, [], t⟩]
mutual
def pcE : El → List Pc
  | .mk s n t ks => opn s n :: (chrs t ++ (pcEs ks ++ [cls s n]))
def pcEs : List El → List Pc
  | [] => []
  | e :: es => pcE e ++ pcEs es
end
theorem pcEs_app : ∀ (a b : List El), pcEs (a ++ b) = pcEs a ++ pcEs b
  | [], b => by simp [pcEs]
  | e :: a, b => by rw [List.cons_append, pcEs, pcEs, pcEs_app a b, List.append_assoc]
abbrev Nm := Int × Row
def nmd (ns : List Nm) (ks : List El) : List El := ks.filter fun k => ns.contains (k.s, k.n)
def onlyP (ns : List Nm) (ks : List El) : El × Bool := match nmd ns ks with | [e] => (e, true) | _ => (El.zero, false)
def fullE (s : Int) (n t : Row) : El := .mk s n t []
def elE (s : Int) (n : Row) (ks : List El) : El := .mk s n [] ks
def optE (s : Int) (n t : Row) : List El := if t = [] then [] else [fullE s n t]
def bookE (b : Bool) : List El := if b = true then [elE 1 rtypeS [elE 1 collS [], elE 2 abookS []]] else []
def trP (i : It) : List El := optE 1 etagS i.tag ++ (optE 2 addrS i.data ++ bookE i.book)
def trS (i : It) : El := if i.gone = true then fullE 1 statusS s404 else elE 1 pstatS [elE 1 propS (trP i), fullE 1 statusS s200]
def trI (i : It) : El := elE 1 respS [fullE 1 hrefS i.href, trS i]
def trT (t : Td) : El := elE 1 mstatS (t.items.map trI ++ optE 1 stokS t.token)
theorem pcE_full {s : Int} {n t : Row} (h : t ≠ []) : pcE (fullE s n t) = full s n t := by
  unfold fullE full el
  rw [pcE, pcEs, chrs, if_neg h]
  rfl
theorem pcE_el {s : Int} {n : Row} {ks : List El} : pcE (elE s n ks) = el s n (pcEs ks) := by
  unfold elE el
  rw [pcE, chrs, if_pos rfl]
  rfl
theorem pcEs_opt {s : Int} {n t : Row} : pcEs (optE s n t) = opt s n t := by
  unfold optE opt
  split
  · rfl
  · rename_i h
    rw [pcEs, pcEs, pcE_full h, List.append_nil]
theorem pcEs_book {b : Bool} : pcEs (bookE b) = bookP b := by
  unfold bookE bookP
  split
  · rw [pcEs, pcEs, pcE_el, pcEs, pcEs, pcEs, pcE_el, pcE_el]
    simp [pcEs]
  · rfl
theorem pcEs_P {i : It} : pcEs (trP i) = pcP i := by
  unfold trP pcP
  rw [pcEs_app, pcEs_app, pcEs_opt, pcEs_opt, pcEs_book]
theorem pcE_S {i : It} : pcE (trS i) = pcS i := by
  unfold trS pcS
  split
  · rw [pcE_full (by decide)]
  · rw [pcE_el, pcEs, pcEs, pcEs, pcE_el, pcE_full (by decide), pcEs_P, List.append_nil]
theorem pcE_I {i : It} (h : i.href ≠ []) : pcE (trI i) = pcI i := by
  unfold trI pcI
  rw [pcE_el, pcEs, pcEs, pcEs, pcE_full h, pcE_S, List.append_nil]
theorem pcEs_Is : ∀ {is : List It}, (∀ i ∈ is, i.href ≠ []) → pcEs (is.map trI) = pcs is
  | [], _ => rfl
  | i :: is, h => by
    rw [List.map_cons, pcEs, pcE_I (h i (by simp)), pcEs_Is (fun j hj => h j (by simp [hj]))]
    rfl
theorem good_href {t : Td} (h : goodT t = true) : ∀ i ∈ t.items, i.href ≠ [] := by
  unfold goodT at h
  simp only [Bool.and_eq_true, List.all_eq_true] at h
  exact fun i hi => (goodI_parts (h.2 i hi)).1
theorem pcE_T {t : Td} (h : goodT t = true) : pcE (trT t) = pcT t := by
  unfold trT pcT
  rw [pcE_el, pcEs_app, pcEs_Is (good_href h), pcEs_opt]

/-! ### what is found in it -/
def itemP (e : El) : It :=
  let ps := (onlyP [(1, pstatS)] e.ks).1
  let p := (onlyP [(1, propS)] ps.ks).1
  ⟨(onlyP [(1, hrefS)] e.ks).1.t, (onlyP [(1, statusS)] e.ks).2, (onlyP [(1, etagS)] p.ks).1.t, (onlyP [(2, addrS)] p.ks).1.t, (onlyP [(1, rtypeS)] p.ks).2⟩
def toldP (e : El) : Td := ⟨(nmd [(1, respS)] e.ks).map itemP, (onlyP [(1, stokS)] e.ks).1.t⟩
theorem item_found {i : It} (h : i.gone = true → i.tag = [] ∧ i.data = [] ∧ i.book = false) : itemP (trI i) = i := by
  obtain ⟨hr, g, tg, da, bk⟩ := i
  cases g
  · by_cases h1 : tg = [] <;> by_cases h2 : da = [] <;> cases bk <;>
      simp [itemP, trI, trS, trP, onlyP, nmd, elE, fullE, optE, bookE, El.ks, El.s, El.n, El.t, El.zero, h1, h2, hrefS, statusS, pstatS, propS, etagS, addrS, rtypeS]
  · obtain ⟨rfl, rfl, rfl⟩ := h rfl
    simp [itemP, trI, trS, onlyP, nmd, elE, fullE, El.ks, El.s, El.n, El.t, El.zero, hrefS, statusS, pstatS, propS, etagS, addrS, rtypeS]
theorem nmd_app (ns : List Nm) (a b : List El) : nmd ns (a ++ b) = nmd ns a ++ nmd ns b := by unfold nmd; rw [List.filter_append]
theorem nmd_resp : ∀ (is : List It), nmd [(1, respS)] (is.map trI) = is.map trI
  | [] => rfl
  | i :: is => by
    have := nmd_resp is
    unfold nmd at this ⊢
    rw [List.map_cons, List.filter_cons_of_pos (by simp [trI, elE, El.s, El.n]), this]
theorem nmd_stok : ∀ (is : List It), nmd [(1, stokS)] (is.map trI) = []
  | [] => rfl
  | i :: is => by
    have := nmd_stok is
    unfold nmd at this ⊢
    rw [List.map_cons, List.filter_cons_of_neg (by simp [trI, elE, El.s, El.n, respS, stokS]), this]
theorem told_found {t : Td} (h : goodT t = true) : toldP (trT t) = t := by
  have hg := h
  unfold goodT at hg
  simp only [Bool.and_eq_true, List.all_eq_true] at hg
  obtain ⟨is, tk⟩ := t
  simp only at hg
  have e1 : nmd [(1, respS)] (is.map trI ++ optE 1 stokS tk) = is.map trI := by
    rw [nmd_app, nmd_resp]
    have : nmd [(1, respS)] (optE 1 stokS tk) = [] := by
      unfold optE nmd
      split
      · rfl
      · simp [fullE, El.s, El.n, respS, stokS]
    rw [this, List.append_nil]
  have e2 : nmd [(1, stokS)] (is.map trI ++ optE 1 stokS tk) = optE 1 stokS tk := by
    rw [nmd_app, nmd_stok, List.nil_append]
    unfold optE nmd
    split
    · rfl
    · simp [fullE, El.s, El.n]
  have e3 : (is.map trI).map itemP = is := by
    rw [List.map_map]
    have : ∀ i ∈ is, (itemP ∘ trI) i = i := fun i hi => item_found (goodI_parts (hg.2 i hi)).2.2.2.2
    rw [List.map_congr_left this, List.map_id']
  unfold toldP trT elE
  show (⟨(nmd [(1, respS)] (is.map trI ++ optE 1 stokS tk)).map itemP, (onlyP [(1, stokS)] (is.map trI ++ optE 1 stokS tk)).1.t⟩ : Td) = _
  unfold onlyP
  rw [e1, e2, e3]
  congr 1
  unfold optE
  by_cases h0 : tk = []
  · rw [if_pos h0, h0]; rfl
  · rw [if_neg h0]; rfl

/-! ### only good ones are right -/
theorem rgt_texts : ∀ (ps : List Pc) (a c : Bool) (st : List (Row × Int)), rgt a c st ps = true → ∀ p ∈ ps, p.kind = 3 → okTxt p = true
  | [], _, _, _, _ => fun p hp => by cases hp
  | q :: r, a, c, st, h => by
    intro p hp hk
    unfold rgt at h
    simp only [Bool.and_eq_true] at h
    have h2 := h.2
    by_cases k1 : q.kind = 1
    · rw [if_pos k1] at h2
      simp only [Bool.and_eq_true] at h2
      rcases List.mem_cons.1 hp with rfl | hp
      · rw [k1] at hk; exact absurd hk (by decide)
      · exact rgt_texts r _ _ _ h2.2 p hp hk
    · rw [if_neg k1] at h2
      by_cases k2 : q.kind = 2
      · rw [if_pos k2] at h2
        simp only [Bool.and_eq_true] at h2
        rcases List.mem_cons.1 hp with rfl | hp
        · rw [k2] at hk; exact absurd hk (by decide)
        · cases st with
          | nil => exact absurd h2.2 (by simp)
          | cons e s =>
            have h3 := h2.2
            simp only [Bool.and_eq_true] at h3
            exact rgt_texts r _ _ _ h3.2 p hp hk
      · rw [if_neg k2] at h2
        by_cases k3 : q.kind = 3
        · rw [if_pos k3] at h2
          simp only [Bool.and_eq_true] at h2
          rcases List.mem_cons.1 hp with rfl | hp
          · exact h2.1.2
          · exact rgt_texts r _ _ _ h2.2 p hp hk
        · rw [if_neg k3] at h2
          cases h2
theorem right_texts {ps : List Pc} (h : right ps = true) {t : Row} (ht : (⟨3, 0, [], t⟩ : Pc) ∈ ps) : txt t = true ∧ t ≠ [] := by
  have h1 := rgt_texts ps _ _ _ h _ ht rfl
  unfold okTxt at h1
  simp only [Bool.and_eq_true] at h1
  obtain ⟨_, h2, h3⟩ := h1
  refine ⟨?_, fun e => ?_⟩
  · unfold txt; rw [h2, h3]; simp
  · rw [e] at h3; exact absurd h3 (by decide)
def contraI (i : It) : Bool := i.gone && (!i.tag.isEmpty || (!i.data.isEmpty || i.book))
theorem mem_full {s : Int} {n t : Row} : (⟨3, 0, [], t⟩ : Pc) ∈ full s n t := by simp [full, el]
theorem mem_el {s : Int} {n : Row} {w : List Pc} {p : Pc} (h : p ∈ w) : p ∈ el s n w := by simp [el, h]
theorem mem_opt {s : Int} {n t : Row} (h : t ≠ []) : (⟨3, 0, [], t⟩ : Pc) ∈ opt s n t := by unfold opt; rw [if_neg h]; exact mem_full
theorem txt_nil : txt [] = true := by decide
theorem good_item {ps : List Pc} (h : right ps = true) {i : It} (hi : ∀ p ∈ pcI i, p ∈ ps) (hc : contraI i = false) : goodI i = true := by
  have h1 := right_texts h (hi _ (mem_el (List.mem_append_left _ mem_full)) : (⟨3, 0, [], i.href⟩ : Pc) ∈ ps)
  have h2 : txt i.tag = true ∧ txt i.data = true := by
    by_cases hg : i.gone = true
    · unfold contraI at hc
      rw [hg] at hc
      simp only [Bool.true_and, Bool.or_eq_false_iff, Bool.not_eq_false', List.isEmpty_iff] at hc
      rw [hc.1, hc.2.1]
      exact ⟨txt_nil, txt_nil⟩
    · have hs : ∀ p ∈ pcP i, p ∈ ps := fun p hp => hi p (mem_el (List.mem_append_right _ (by
        unfold pcS
        rw [if_neg hg]
        exact mem_el (List.mem_append_left _ (mem_el hp)))))
      constructor
      · by_cases h0 : i.tag = []
        · rw [h0]; exact txt_nil
        · exact (right_texts h (hs _ (List.mem_append_left _ (mem_opt h0)))).1
      · by_cases h0 : i.data = []
        · rw [h0]; exact txt_nil
        · exact (right_texts h (hs _ (List.mem_append_right _ (List.mem_append_left _ (mem_opt h0))))).1
  unfold goodI
  unfold contraI at hc
  rw [h1.1, h2.1, h2.2, hc]
  have e : i.href.isEmpty = false := by cases hh : i.href with | nil => exact absurd hh h1.2 | cons => rfl
  rw [e]; rfl
theorem good_told {t : Td} (h : right (pcT t) = true) (hc : t.items.any contraI = false) : goodT t = true := by
  rw [List.any_eq_false] at hc
  unfold goodT
  simp only [Bool.and_eq_true, List.all_eq_true]
  constructor
  · by_cases h0 : t.token = []
    · rw [h0]; exact txt_nil
    · exact (right_texts h (mem_el (List.mem_append_right _ (mem_opt h0)))).1
  · intro i hi
    refine good_item h (fun p hp => mem_el (List.mem_append_left _ ?_)) (by have := hc i hi; simpa using this)
    unfold pcs
    exact List.mem_flatMap.2 ⟨i, hi, hp⟩
theorem contra_bad {t : Td} (hc : t.items.any contraI = true) : goodT t = false := by
  obtain ⟨i, hi, hc⟩ := List.any_eq_true.1 hc
  cases hg : goodT t with
  | false => rfl
  | true =>
    unfold goodT at hg
    simp only [Bool.and_eq_true, List.all_eq_true] at hg
    have h := (goodI_parts (hg.2 i hi)).2.2.2.2
    unfold contraI at hc
    simp only [Bool.and_eq_true] at hc
    obtain ⟨h1, h2, h3⟩ := h hc.1
    rw [h1, h2, h3] at hc
    exact absurd hc.2 (by decide)
/-- what the program asks for it to be good, and the statement -/
theorem good_is (t : Td) (hc : t.items.any contraI = false) : goodT t = right (pcT t) := by
  cases hr : right (pcT t) with
  | true => exact good_told hr hc
  | false =>
    cases hg : goodT t with
    | false => rfl
    | true => rw [right_told hg] at hr; cases hr
end Go.Proofs.YtmmpojhjpghdlaaGreatDoor.Dv

/-
  HOW ITEMS LIE IN MEMORY: rows of the call's own ('IsOwn'), wherever they read ('ItsAt').
-/
set_option linter.unusedVariables false
namespace Go.Proofs.YtmmpojhjpghdlaaGreatDoor.Dv
open Go.Lib Go.RowKit
open Xm (Row Pc sv PsOwn PcsAt append_piece below_then sv_some left_of info_parts ownsRow_kept)

def zeroIt : Value := .agg #[.string ⟨#[]⟩, .bool false, .string ⟨#[]⟩, .string ⟨#[]⟩, .bool false]
theorem infoIt : (Tryz.prog.info? 79).map (fun i => (i.zero, i.size, i.bytes)) = some (some zeroIt, 5, 64) := by kernel_rfl
def icells : List It → List Value
  | [] => []
  | i :: is => sv i.href :: .bool i.gone :: sv i.tag :: sv i.data :: .bool i.book :: icells is
theorem icells_snoc : ∀ (is : List It) (i : It), icells (is ++ [i]) = icells is ++ [sv i.href, .bool i.gone, sv i.tag, sv i.data, .bool i.book]
  | [], _ => rfl
  | q :: is, i => by
    have := icells_snoc is i
    simp only [List.cons_append, icells, this]
theorem icells_len : ∀ (is : List It), (icells is).length = is.length * 5
  | [] => rfl
  | i :: is => by
    have := icells_len is
    simp only [icells, List.length_cons]; omega
theorem icells_at : ∀ (is : List It) (j : Nat) (i : It), is[j]? = some i →
    (icells is)[j * 5]? = some (sv i.href) ∧ (icells is)[j * 5 + 1]? = some (.bool i.gone) ∧ (icells is)[j * 5 + 2]? = some (sv i.tag) ∧ (icells is)[j * 5 + 3]? = some (sv i.data) ∧ (icells is)[j * 5 + 4]? = some (.bool i.book)
  | [], j, i, h => by simp at h
  | q :: is, 0, i, h => by
    simp at h; subst h
    exact ⟨rfl, rfl, rfl, rfl, rfl⟩
  | q :: is, j + 1, i, h => by
    have := icells_at is j i (by simpa using h)
    rw [show (j + 1) * 5 = j * 5 + 1 + 1 + 1 + 1 + 1 by omega]
    simpa [icells] using this
def IsOwn (B : Nat) (v : Value) (is : List It) (w : World) : Prop := w.ownsRow B 79 5 v is.length (icells is)
theorem IsOwn.nil (B : Nat) (w : World) : IsOwn B (.slice none 0 0) [] w := World.ownsRow_nil w B _ 5
theorem IsOwn.lt {w : World} {B : Nat} {v : Value} {is : List It} (h : IsOwn B v is w) : ∀ g, v.ownBlock = some g → B ≤ g ∧ g < w.heap.size := World.ownsRow.lt h
theorem IsOwn.kept {w w' : World} {B : Nat} {v : Value} {is : List It} (h : IsOwn B v is w) (hb : Below w.heap.size w w') : IsOwn B v is w' := ownsRow_kept h hb
def ItCells (w : World) (b o : Nat) (i : It) : Prop := w.cell? ⟨b, o, none⟩ = some (sv i.href) ∧ w.cell? ⟨b, o + 1, none⟩ = some (.bool i.gone) ∧ w.cell? ⟨b, o + 2, none⟩ = some (sv i.tag) ∧ w.cell? ⟨b, o + 3, none⟩ = some (sv i.data) ∧ w.cell? ⟨b, o + 4, none⟩ = some (.bool i.book)
theorem ItCells.same {w w' : World} {b o : Nat} {i : It} (h : ItCells w b o i) (hb : w'.heap[b]? = w.heap[b]?) : ItCells w' b o i := by
  unfold ItCells
  have e : ∀ k, w'.cell? ⟨b, k, none⟩ = w.cell? ⟨b, k, none⟩ := fun k => World.cell?_of_block (a := ⟨b, k, none⟩) hb
  rw [e, e, e, e, e]
  exact h
/-- items, wherever they read, in a block below c -/
def ItsAt (c : Nat) (w : World) (v : Value) (is : List It) : Prop :=
  ∃ (A : Option Addr) (b off k : Nat), v = .slice A is.length k ∧ is.length ≤ k ∧ k ≤ maxLen ∧ (0 < is.length → A = some ⟨b, off, none⟩ ∧ b < c ∧ b < w.heap.size) ∧
    ∀ (j : Nat) (i : It), is[j]? = some i → ItCells w b (off + j * 5) i
theorem ItsAt.nil (c : Nat) (w : World) (A : Option Addr) : ItsAt c w (.slice A 0 0) [] := ⟨A, 0, 0, 0, rfl, Nat.le_refl _, Nat.zero_le _, fun h => absurd h (by simp), fun j p h => by simp at h⟩
theorem ItsAt.same {c : Nat} {w w' : World} {v : Value} {is : List It} (h : ItsAt c w v is) (hz : w.heap.size ≤ w'.heap.size) (hb : ∀ k, k < c → k < w.heap.size → w'.heap[k]? = w.heap[k]?) : ItsAt c w' v is := by
  obtain ⟨A, b, off, k, h1, h2, h3, h4, h5⟩ := h
  refine ⟨A, b, off, k, h1, h2, h3, fun hl => ⟨(h4 hl).1, (h4 hl).2.1, Nat.lt_of_lt_of_le (h4 hl).2.2 hz⟩, fun j i hj => (h5 j i hj).same ?_⟩
  obtain ⟨_, q1, q2⟩ := h4 (by have := (List.getElem?_eq_some_iff.1 hj).1; omega)
  exact hb b q1 q2
theorem ItsAt.below {c : Nat} {w w' : World} {v : Value} {is : List It} (h : ItsAt c w v is) (hb : Below w.heap.size w w') : ItsAt c w' v is := h.same hb.size fun k _ hk => hb.block k hk
theorem ItsAt.less {c c' : Nat} {w : World} {v : Value} {is : List It} (h : ItsAt c w v is) (hc : c ≤ c') : ItsAt c' w v is := by
  obtain ⟨A, b, off, k, h1, h2, h3, h4, h5⟩ := h
  exact ⟨A, b, off, k, h1, h2, h3, fun hl => ⟨(h4 hl).1, Nat.lt_of_lt_of_le (h4 hl).2.1 hc, (h4 hl).2.2⟩, h5⟩
theorem ItsAt.form {c : Nat} {w : World} {v : Value} {is : List It} (h : ItsAt c w v is) : ∃ A k, v = .slice A is.length k := by
  obtain ⟨A, b, off, k, h, _⟩ := h
  exact ⟨A, k, h⟩
theorem IsOwn.at {B : Nat} {v : Value} {is : List It} {w : World} (h : IsOwn B v is w) : ItsAt w.heap.size w v is := by
  obtain ⟨h1, h2 | ⟨g, cap, cur, e1, e2, e3, e4, e5, e6, e7⟩⟩ := h
  · obtain rfl : is = [] := List.eq_nil_of_length_eq_zero h2.2
    exact ⟨none, 0, 0, 0, h2.1, by simp, by unfold maxLen; omega, fun h => absurd h (by simp), fun j l hj => by simp at hj⟩
  · refine ⟨_, g, 0, cap, e1, e4, e5, fun _ => ⟨rfl, (Array.getElem?_eq_some_iff.1 e3).1, (Array.getElem?_eq_some_iff.1 e3).1⟩, fun j p hj => ?_⟩
    have hlt := (List.getElem?_eq_some_iff.1 hj).1
    obtain ⟨c0, c1, c2, c3, c4⟩ := icells_at is j p hj
    have key : ∀ i x, i < is.length * 5 → (icells is)[i]? = some x → w.cell? ⟨g, 0 + i, none⟩ = some x := fun i x hi hx => by
      rw [Lib.cell_of_heap e3, Nat.zero_add]
      have : (cur.toList.take (is.length * 5))[i]? = (icells is)[i]? := by rw [e7]
      rw [List.getElem?_take, if_pos hi, hx] at this
      rw [← Array.getElem?_toList, this]
    have k1 := key (j * 5 + 1) _ (by omega) c1
    have k2 := key (j * 5 + 2) _ (by omega) c2
    have k3 := key (j * 5 + 3) _ (by omega) c3
    have k4 := key (j * 5 + 4) _ (by omega) c4
    rw [← Nat.add_assoc] at k1 k2 k3 k4
    exact ⟨key _ _ (by omega) c0, k1, k2, k3, k4⟩
/-- a Told: its items, its token -/
def ToldAt (c : Nat) (w : World) (v : Value) (t : Td) : Prop := ∃ iv, v = .agg #[iv, sv t.token] ∧ ItsAt c w iv t.items
end Go.Proofs.YtmmpojhjpghdlaaGreatDoor.Dv

/-
  dav.contradicts, AND slices.ContainsFunc AT IT: does an item say that there is nothing, and also what there is?
-/
set_option linter.unusedVariables false
namespace Go.Proofs.YtmmpojhjpghdlaaGreatDoor.Dv
open Go.Lib Go.RowKit
open Xm (Row Pc sv PsOwn PcsAt append_piece below_then sv_some left_of)

theorem emp_of (x : ByteArray) : (x.data.toList = [] ∧ (x.toList == ([] : List UInt8)) = true ∧ x.toList = [] ∧ x.toList.isEmpty = true ∧ x.data.toList.isEmpty = true) ∨ (x.data.toList ≠ [] ∧ (x.toList == ([] : List UInt8)) = false ∧ ¬ x.toList = [] ∧ x.toList.isEmpty = false ∧ x.data.toList.isEmpty = false) := by
  rw [Lib.toList_data]
  cases h : x.data.toList with
  | nil => exact .inl ⟨rfl, rfl, rfl, rfl, rfl⟩
  | cons => exact .inr ⟨by simp, rfl, by simp, rfl, rfl⟩
set_option maxHeartbeats 4000000 in
set_option maxRecDepth 100000 in
theorem contradicts_any (x0 x2 x3 : ByteArray) (b1 b4 : Bool) (w : World) :
    Calls Tryz.prog 31 #[.agg #[.string x0, .bool b1, .string x2, .string x3, .bool b4]] w fun e w' => e = .returned (.bool (contraI ⟨x0.data.toList, b1, x2.data.toList, x3.data.toList, b4⟩)) ∧ Below w.heap.size w w' := by
  have hb : Below w.heap.size w (w.alloc (.cells #[.string x0, .bool b1, .string x2, .string x3, .bool b4] 79)) := (Below.refl _ _).alloc (Nat.le_refl _) _
  have hb' := Lib.hid hb
  obtain ⟨R, hR⟩ : ∃ R, contraI ⟨x0.data.toList, b1, x2.data.toList, x3.data.toList, b4⟩ = R := ⟨_, rfl⟩
  rw [hR]
  have hR' := Lib.hid hR
  clear hR hb
  rcases emp_of x2 with ⟨p2, q2, r2, s2, t2⟩ | ⟨p2, q2, r2, s2, t2⟩ <;> rcases emp_of x3 with ⟨p3, q3, r3, s3, t3⟩ | ⟨p3, q3, r3, s3, t3⟩ <;> cases b1 <;> cases b4
  all_goals
    have hv := Lib.hid hR'.out
    have t2' := Lib.hid t2
    have t3' := Lib.hid t3
    clear t2 t3
    go_enter Tryz.func31, Tryz.ntmps31
    go_wp2
    go_ret
    refine ⟨?_, hb'.out⟩
    rw [← hv.out]
    first | rfl | (simp only [contraI, t2'.out, t3'.out] <;> rfl)
def FoundI (q : It → Bool) (xs : List It) (e : Ending) : Prop := ∃ i : Int, e = .returned (.int .i64 i) ∧ xs.any q = decide (0 ≤ i)
theorem none_i {q : It → Bool} {xs : List It} (h : ∀ x ∈ xs, q x = false) : xs.any q = false := by
  rw [List.any_eq_false]
  intro x hx
  rw [h x hx]; decide
theorem some_i {q : It → Bool} {xs : List It} {k : Nat} {x : It} (h : xs[k]? = some x) (hx : q x = true) : xs.any q = true := by
  rw [List.any_eq_true]
  exact ⟨x, List.mem_of_getElem? h, hx⟩
theorem next_i {q : It → Bool} {xs : List It} {k : Nat} {x : It} (h : xs[k]? = some x) (hall : ∀ y ∈ xs.take k, q y = false) (hx : q x = false) : ∀ y ∈ xs.take (k + 1), q y = false := by
  obtain ⟨hl, hv⟩ := List.getElem?_eq_some_iff.1 h
  intro y hy
  rw [List.take_succ_eq_append_getElem hl, List.mem_append, List.mem_singleton, hv] at hy
  rcases hy with hy | rfl
  · exact hall y hy
  · exact hx

set_option maxHeartbeats 4000000 in
set_option maxRecDepth 100000 in
theorem indexI (c : Nat) (v : Value) (is : List It) (w : World) (hi : ItsAt c w v is) :
    Calls Tryz.prog 55 #[v, .func (.func 31) #[] #[]] w fun e w' => FoundI contraI is e ∧ Below w.heap.size w w' := by
  have hcall : ∀ (W : World) (i : It), Below w.heap.size w W → ItsAt c W v is := fun W _ hW => hi.below hW
  obtain ⟨A, b, off, c0, rfl, h1, h2, h3, h4⟩ := hi
  obtain ⟨n, hn⟩ : ∃ n, is.length = n := ⟨_, rfl⟩
  rw [hn] at h1 h3 ⊢
  have hn' := Lib.hid hn
  have h3' := Lib.hid h3
  have h4' := Lib.hid h4
  unfold maxLen at h2
  clear hn h3 h4 hcall
  go_enter Tryz.func55, Tryz.ntmps55
  go_wp2
  go_loopw [8] (fun s8 wr => ∃ k : Nat, s8 = .int .i64 (k : Int) ∧ k ≤ n ∧ Below w.heap.size w wr ∧ ∀ y ∈ is.take k, contraI y = false) (fun s8 wr => n - (RowKit.intOf s8).toNat)
  case atStart => exact ⟨0, rfl, Nat.zero_le _, Below.refl _ _, fun y hy => by simp at hy⟩
  case round =>
    obtain ⟨k, rfl, hk, hbw, hall⟩ := hrel
    have hall' := Lib.hid hall
    clear hall
    by_cases hlt : k < n
    · have hv : is[k]? = some (is[k]'(by have := hn'.out; omega)) := List.getElem?_eq_getElem _
      obtain ⟨i, hI⟩ : ∃ i, is[k]'(by have := hn'.out; omega) = i := ⟨_, rfl⟩
      rw [hI] at hv
      obtain ⟨rfl, hg, hg2⟩ := h3'.out (by omega)
      obtain ⟨q0, q1, q2, q3, q4⟩ := (h4'.out k i hv).same (hbw.block b hg2)
      obtain ⟨x0, e0, d0⟩ := sv_some i.href
      obtain ⟨x2, e2, d2⟩ := sv_some i.tag
      obtain ⟨x3, e3, d3⟩ := sv_some i.data
      rw [e0] at q0
      rw [e2] at q2
      rw [e3] at q3
      obtain ⟨b1, hb1⟩ : ∃ b1, i.gone = b1 := ⟨_, rfl⟩
      obtain ⟨b4, hb4⟩ : ∃ b4, i.book = b4 := ⟨_, rfl⟩
      rw [hb1] at q1
      rw [hb4] at q4
      have hi0 : (⟨x0.data.toList, b1, x2.data.toList, x3.data.toList, b4⟩ : It) = i := by rw [d0, d2, d3, ← hb1, ← hb4]
      have hcall := contradicts_any x0 x2 x3 b1 b4 wr
      rw [hi0] at hcall
      have hv' := Lib.hid hv
      clear hv hI e0 e2 e3 d0 d2 d3 hb1 hb4 hi0
      cases hq : contraI i
      · rw [hq] at hcall
        have hnx := Lib.hid (next_i hv'.out hall'.out hq)
        clear hq
        go_wp2_with (go_at_call 31; refine hcall.mono ?_; rintro e w3 ⟨rfl, hb3⟩)
        go_roundw
        case rel => exact ⟨k + 1, by go_num, by omega, hbw.trans (hb3.mono hbw.size), hnx.out⟩
        case measure => simp [RowKit.intOf]; omega
      · rw [hq] at hcall
        have hf : FoundI contraI is (.returned (.int .i64 (k : Int))) := ⟨k, rfl, by rw [some_i hv'.out hq, decide_eq_true (by omega)]⟩
        have hf' := Lib.hid hf
        clear hq hf
        go_wp2_with (go_at_call 31; refine hcall.mono ?_; rintro e w3 ⟨rfl, hb3⟩)
        go_ret
        exact ⟨hf'.out, hbw.trans (hb3.mono hbw.size)⟩
    · have hf : FoundI contraI is (.returned (.int .i64 (-1))) := ⟨-1, rfl, by
        have := hall'.out
        rw [List.take_of_length_le (by have := hn'.out; omega)] at this
        rw [none_i this]; rfl⟩
      have hf' := Lib.hid hf
      clear hf
      go_wp2
      go_ret
      exact ⟨hf'.out, hbw⟩

set_option maxHeartbeats 4000000 in
set_option maxRecDepth 100000 in
theorem containsI (c : Nat) (v : Value) (is : List It) (w : World) (hi : ItsAt c w v is) :
    Calls Tryz.prog 30 #[v, .func (.func 31) #[] #[]] w fun e w' => e = .returned (.bool (is.any contraI)) ∧ Below w.heap.size w w' := by
  have cI := indexI c v is w hi
  unfold FoundI at cI
  generalize is.any contraI = R at cI ⊢
  obtain ⟨A, k, rfl⟩ := hi.form
  obtain ⟨n, hn⟩ : ∃ n, is.length = n := ⟨_, rfl⟩
  rw [hn] at cI ⊢
  clear hi hn
  go_enter Tryz.func30, Tryz.ntmps30
  go_wp2_with (go_at_call 55; refine cI.mono ?_; rintro e w' ⟨⟨i, rfl, hi⟩, hb⟩; subst hi)
  go_ret
  exact ⟨rfl, hb⟩
end Go.Proofs.YtmmpojhjpghdlaaGreatDoor.Dv

/-
  BYTES OF THE CALL's OWN ('BOwn'): one more, a string more, turned into a string.
-/
set_option linter.unusedVariables false
namespace Go.Proofs.YtmmpojhjpghdlaaGreatDoor.Xm
open Go.Lib Go.RowKit

theorem infoU8 : (Tryz.prog.info? 5).map (fun i => (i.zero, i.size, i.bytes)) = some (some (.int .u8 0), 1, 1) := by kernel_rfl
def BOwn (B : Nat) (v : Value) (l : Row) (w : World) : Prop := w.ownsRow B 5 1 v l.length (byteCells l)
theorem BOwn.nil (B : Nat) (w : World) : BOwn B (.slice none 0 0) [] w := World.ownsRow_nil w B _ 1
theorem BOwn.kept {w w' : World} {B : Nat} {v : Value} {l : Row} (h : BOwn B v l w) (hb : Below w.heap.size w w') : BOwn B v l w' := ownsRow_kept h hb
theorem conv_own {B : Nat} {v : Value} {l : Row} {w : World} (h : BOwn B v l w) : (convert 88 9 v).run Tryz.prog w = .ok (.string ⟨l.toArray⟩) w := by
  obtain ⟨h1, h2 | ⟨g, cap, cur, e1, e2, e3, e4, e5, e6, e7⟩⟩ := h
  · obtain rfl : l = [] := List.eq_nil_of_length_eq_zero h2.2
    rw [h2.1]
    exact run_convert_bytes_nil w 88 5 Tryz.underlying88 Tryz.underlying5 0 0 9 Tryz.underlying9
  · rw [e1]
    refine run_convert_bytes_back w 88 9 5 ⟨g, 0, none⟩ cap l Tryz.underlying88 Tryz.underlying5 Tryz.underlying9 fun j hj => ?_
    have hp : (⟨g, 0, none⟩ : Addr).add j = ⟨g, j, none⟩ := by unfold Addr.add; split <;> simp_all
    rw [hp, Lib.cell_of_heap e3]
    have : (cur.toList.take (l.length * 1))[j]? = (byteCells l)[j]? := by rw [e7]
    rw [List.getElem?_take, if_pos (by omega)] at this
    rw [← Array.getElem?_toList, this]
    unfold byteCells
    rw [List.getElem?_map, List.getElem?_eq_getElem hj]; rfl
/-- one byte more -/
theorem append_byte {w0 : World} {ops : Array Oper} {rest : List Oper} {o : Oper} {a : Act} {Q : Exit → Act → World → Prop} (x : UInt8) (z : Int) (hz : (x.toNat : Int) = z) (hgd : o.guard = none) (s xo : Operand)
    (ho : o.op = .call { callee := .builtin .append, args := #[s, xo], argTypes := #[88, 88] }) (base : Nat) (v : Value) (l : Row) (g : Nat) (hgz : g = w0.heap.size) (hs : a.eval s = v) (hx : a.eval xo = .slice (some ⟨g, 0, none⟩) 1 1)
    (hown : BOwn base v l w0) (hl : l.length + 1 ≤ 140737488355328) (hbase : base ≤ w0.heap.size)
    (h : ∀ v' w', BOwn base v' (l ++ [x]) w' → (w0.alloc (.cells #[.int .u8 z] 5)).grownBy w' v.ownBlock → wpList Tryz.prog ops Q rest (a.put o.dst v') w') :
    wpList Tryz.prog ops Q (o :: rest) a (w0.alloc (.cells #[.int .u8 z] 5)) := by
  obtain ⟨i0, hi, hz0, hz1, hz2⟩ := info_parts infoU8
  subst hz
  subst hgz
  refine wpList_append_own _ hgd s xo 88 ho base 5 i0 (.int .u8 0) 1 1 Tryz.underlying88 hi hz0 hz1 hz2 rfl (by decide) v l.length (byteCells l) hs (World.ownsRow.alloc hown _) ⟨w0.heap.size, 0, none⟩ 1 1 [.int .u8 (x.toNat : Int)] hx rfl (fun j u hj => ?_) (fun u hu => ?_) (by unfold maxLen; omega) (by omega) (by simp; omega) (fun v' w' h5 h6 _ => h v' w' ?_ h6)
  · match j, hj with
    | 0, hj => simp at hj; subst hj; simp [Addr.add]
  · simp at hu
    rcases hu with rfl
    rfl
  · unfold BOwn
    rw [byteCells_append, List.length_append]
    exact h5
/-- a string more -/
theorem append_text {w0 : World} {ops : Array Oper} {rest : List Oper} {o : Oper} {a : Act} {Q : Exit → Act → World → Prop} (x : ByteArray) (hgd : o.guard = none) (s xo : Operand)
    (ho : o.op = .call { callee := .builtin .append, args := #[s, xo], argTypes := #[88, 9] }) (base : Nat) (v : Value) (l : Row) (hs : a.eval s = v) (hx : a.eval xo = .string x)
    (hown : BOwn base v l w0) (hl : l.length + x.size ≤ 140737488355328) (hbase : base ≤ w0.heap.size)
    (h : ∀ v' w', BOwn base v' (l ++ x.data.toList) w' → w0.grownBy w' v.ownBlock → wpList Tryz.prog ops Q rest (a.put o.dst v') w') :
    wpList Tryz.prog ops Q (o :: rest) a w0 := by
  obtain ⟨i0, hi, hz0, hz1, hz2⟩ := info_parts infoU8
  refine Lib.wpList_append_own_string _ hgd s xo 88 9 ho base 5 i0 Tryz.underlying88 Tryz.underlying9 hi hz0 hz1 hz2 v l.length (byteCells l) hs hown x hx (by unfold maxLen; omega) hl hbase (fun v' w' h5 h6 _ => h v' w' ?_ h6)
  unfold BOwn
  rw [byteCells_append, List.length_append, ← Lib.size_eq]
  exact h5
/-- what lies below stays -/
theorem grown_below {B : Nat} {w0 w1 w' : World} {v : Value} {l : Row} (hb : Below B w0 w1) (hown : BOwn B v l w1) (hg : w1.grownBy w' v.ownBlock) (hB : B ≤ w1.heap.size) : Below B w0 w' :=
  hb.grown hg hB (fun k hk => (hown.lt k hk).1)
/-- an object beside bytes that grow -/
theorem beside_b {w w0 w' : World} {B i : Nat} {v : Value} {l : Row} (h : BOwn B v l w) (hi : w.heap.size ≤ i) (h0 : i < w0.heap.size) (hg : w0.grownBy w' v.ownBlock) : w'.heap[i]? = w0.heap[i]? :=
  hg.block i h0 (fun e => by
    have := (h.lt i e.symm).2
    omega)
/-- another object's block, of another type, beside bytes that grow -/
theorem beside_t {w0 w' : World} {B i : Nat} {v : Value} {l : Row} {xs : Array Value} {t : TypeId} {z : Nat × Nat} (h : BOwn B v l w0) (hi : w0.heap[i]? = some (.cells xs t z)) (ht : t ≠ 5) (hg : w0.grownBy w' v.ownBlock) : w'.heap[i]? = some (.cells xs t z) := by
  rw [hg.block i (Array.getElem?_eq_some_iff.1 hi).1 (fun e => ?_)]
  · exact hi
  · rcases h.2 with ⟨e1, _⟩ | ⟨g, cap, cur, e1, e2, e3, _⟩
    · rw [e1] at e; cases e
    · rw [e1] at e
      simp [Value.ownBlock] at e
      rw [← e, hi] at e3
      injection e3 with e3
      injection e3 with _ e4
      exact ht e4
theorem piece_ne : (75 : TypeId) ≠ 5 := by decide
/-- what stays where bytes of the call's own grow -/
def Stay (w0 : World) (base : Nat) (w' : World) : Prop := (∀ A, Below base A w0 → Below base A w') ∧ ∀ (i : Nat) (xs : Array Value) (z : Nat × Nat), w0.heap[i]? = some (Obj.cells xs 75 z) → w'.heap[i]? = some (Obj.cells xs 75 z)
theorem append_text2 {w0 : World} {ops : Array Oper} {rest : List Oper} {o : Oper} {a : Act} {Q : Exit → Act → World → Prop} (x : ByteArray) (hgd : o.guard = none) (s xo : Operand)
    (ho : o.op = .call { callee := .builtin .append, args := #[s, xo], argTypes := #[88, 9] }) (base : Nat) (v : Value) (l l' : Row) (hs : a.eval s = v) (hx : a.eval xo = .string x) (hll : l ++ x.data.toList = l')
    (hown : BOwn base v l w0) (hl : l'.length ≤ 140737488355328) (hbase : base ≤ w0.heap.size)
    (h : ∀ v' w', BOwn base v' l' w' → Stay w0 base w' → wpList Tryz.prog ops Q rest (a.put o.dst v') w') :
    wpList Tryz.prog ops Q (o :: rest) a w0 := by
  subst hll
  exact append_text x hgd s xo ho base v l hs hx hown (by rw [List.length_append, ← Lib.size_eq] at hl; exact hl) hbase fun v' w' h1 h2 => h v' w' h1 ⟨fun A hb => grown_below hb hown h2 hbase, fun i xs z hi => beside_t hown hi piece_ne h2⟩
theorem append_byte2 {w0 : World} {ops : Array Oper} {rest : List Oper} {o : Oper} {a : Act} {Q : Exit → Act → World → Prop} (x : UInt8) (z : Int) (hz : (x.toNat : Int) = z) (hgd : o.guard = none) (s xo : Operand)
    (ho : o.op = .call { callee := .builtin .append, args := #[s, xo], argTypes := #[88, 88] }) (base : Nat) (v : Value) (l l' : Row) (hll : l ++ [x] = l') (g : Nat) (hgz : g = w0.heap.size) (hs : a.eval s = v) (hx : a.eval xo = .slice (some ⟨g, 0, none⟩) 1 1)
    (hown : BOwn base v l w0) (hl : l'.length ≤ 140737488355328) (hbase : base ≤ w0.heap.size)
    (h : ∀ v' w', BOwn base v' l' w' → Stay w0 base w' → wpList Tryz.prog ops Q rest (a.put o.dst v') w') :
    wpList Tryz.prog ops Q (o :: rest) a (w0.alloc (.cells #[.int .u8 z] 5)) := by
  subst hll
  rw [List.length_append, List.length_singleton] at hl
  have hal : Below w0.heap.size w0 (w0.alloc (.cells #[.int .u8 z] 5)) := (Below.refl _ _).alloc (Nat.le_refl _) _
  have hown2 := hown.kept hal
  refine append_byte x z hz hgd s xo ho base v l g hgz hs hx hown hl hbase fun v' w' h1 h2 => h v' w' h1 ⟨fun A hb => grown_below (hb.alloc hbase _) hown2 h2 (Nat.le_trans hbase hal.size), fun i xs z' hi => beside_t hown2 ?_ piece_ne h2⟩
  exact (hal.block i (Array.getElem?_eq_some_iff.1 hi).1).trans hi
end Go.Proofs.YtmmpojhjpghdlaaGreatDoor.Xm

/-
  THE WALKS OF TEXTS: char.control, char.Valid (utf8.ValidString by the shelf's contract), the reference's Rune and Valid.
-/
set_option linter.unusedVariables false
namespace Go.Proofs.YtmmpojhjpghdlaaGreatDoor.Ch
open Go.Lib Go.RowKit Go.Shelf

def Tabs (w : World) : Prop := Lib.Utf8Tabs (Tryz.laysValid_ren.g 3) (Tryz.laysValid_ren.g 4) w
theorem tabs_below {w w' : World} (h : Tabs w) (hb : Below w.heap.size w w') : Tabs w' := Utf8Tabs_below h hb

set_option maxHeartbeats 1000000 in
set_option maxRecDepth 100000 in
theorem control_any (x : UInt8) (w : World) : Calls Tryz.prog 66 #[.int .u8 (x.toNat : Int)] w fun e w' => e = .returned (.bool (ctl x)) ∧ w = w' := by
  have hx := x.toNat_lt
  unfold ctl
  generalize x.toNat = v at hx ⊢
  by_cases c1 : v = 9
  · subst c1
    go_enter Tryz.func66, Tryz.ntmps66
    go_wp2
    go_ret
    exact ⟨rfl, rfl⟩
  by_cases c2 : v = 10
  · subst c2
    go_enter Tryz.func66, Tryz.ntmps66
    go_wp2
    go_ret
    exact ⟨rfl, rfl⟩
  by_cases c3 : v = 13
  · subst c3
    go_enter Tryz.func66, Tryz.ntmps66
    go_wp2
    go_ret
    exact ⟨rfl, rfl⟩
  by_cases c4 : v = 127
  · subst c4
    go_enter Tryz.func66, Tryz.ntmps66
    go_wp2
    go_ret
    exact ⟨rfl, rfl⟩
  rw [if_neg (by omega), if_neg c4]
  by_cases c5 : v < 32
  · have d1 : ((v : Int) == 9) = false := by simp; omega
    have d2 : ((v : Int) == 10) = false := by simp; omega
    have d3 : ((v : Int) == 13) = false := by simp; omega
    have d4 : ((v : Int) == 127) = false := by simp; omega
    have d5 : decide ((v : Int) < 32) = true := by simp; omega
    rw [decide_eq_true c5]
    go_enter Tryz.func66, Tryz.ntmps66
    go_wp2
    go_ret
    exact ⟨rfl, rfl⟩
  · have d1 : ((v : Int) == 9) = false := by simp; omega
    have d2 : ((v : Int) == 10) = false := by simp; omega
    have d3 : ((v : Int) == 13) = false := by simp; omega
    have d4 : ((v : Int) == 127) = false := by simp; omega
    have d5 : decide ((v : Int) < 32) = false := by simp; omega
    rw [decide_eq_false c5]
    go_enter Tryz.func66, Tryz.ntmps66
    go_wp2
    go_ret
    exact ⟨rfl, rfl⟩

theorem clean_take (l : List UInt8) (k : Nat) (hk : k < l.length) (h : clean (l.take k) = true) (hc : ctl l[k] = false) : clean (l.take (k + 1)) = true := by
  rw [List.take_succ_eq_append_getElem hk, clean_append, h]
  simp [clean, hc]
theorem clean_not (l : List UInt8) (k : Nat) (hk : k < l.length) (hc : ctl l[k] = true) : clean l = false := by
  unfold clean
  rw [Bool.eq_false_iff]
  intro h
  rw [List.all_eq_true] at h
  have := h _ (List.getElem_mem hk)
  rw [hc] at this
  exact absurd this (by decide)

set_option maxHeartbeats 1000000 in
set_option maxRecDepth 100000 in
theorem valid_any (s : ByteArray) (w : World) (hs : s.size ≤ 9223372036854775807) (hT : Tabs w) :
    Calls Tryz.prog 37 #[.string s] w fun e w' => e = .returned (.bool (valid s.data.toList)) ∧ Below w.heap.size w w' := by
  have cV : Calls Tryz.prog 65 #[.string s] w _ := Any.utf8_ValidString Tryz.laysValid s w hs hT
  unfold valid
  obtain ⟨V, hV⟩ : ∃ V, validD s.data.toList = V := ⟨_, rfl⟩
  rw [hV] at cV ⊢
  clear hV hT
  cases V
  · go_enter Tryz.func37, Tryz.ntmps37
    go_wp2_with (go_at_call 65; refine cV.mono ?_; rintro e w' ⟨rfl, hb⟩)
    go_ret
    exact ⟨rfl, hb⟩
  · rw [Bool.true_and]
    go_enter Tryz.func37, Tryz.ntmps37
    go_wp2_with (go_at_call 65; refine cV.mono ?_; rintro e w1 ⟨rfl, hb⟩)
    clear cV
    go_loop [3] (fun i => ∃ k : Nat, k ≤ s.size ∧ i = .int .i64 k ∧ clean (s.data.toList.take k) = true) (fun i => s.size - (RowKit.intOf i).toNat)
    case atStart => exact ⟨0, Nat.zero_le _, rfl, rfl⟩
    case round =>
      obtain ⟨k, hk, rfl, hcl⟩ := hrel
      have hcl' := Lib.hid hcl
      clear hcl
      by_cases hlt : k < s.size
      · have hkl : k < s.data.toList.length := by simpa using hlt
        have hsk := Lib.hid (show s[k]'hlt = s.data.toList[k]'hkl by simp; rfl)
        by_cases hc : ctl (s[k]'hlt) = true
        · have hno := Lib.hid (clean_not s.data.toList k hkl (by rw [← hsk.out]; exact hc))
          go_wp2_with (go_at_call 66; refine (control_any _ _).mono ?_; rintro e w' ⟨rfl, rfl⟩)
          go_ret
          exact ⟨by rw [hno.out]; rfl, hb⟩
        · rw [Bool.not_eq_true] at hc
          have hyes := Lib.hid (clean_take s.data.toList k hkl hcl'.out (by rw [← hsk.out]; exact hc))
          go_wp2_with (go_at_call 66; refine (control_any _ _).mono ?_; rintro e w' ⟨rfl, rfl⟩)
          go_round
          case rel => exact ⟨k + 1, by omega, by go_num, hyes.out⟩
          case measure => simp [RowKit.intOf]; omega
      · have hks : k = s.size := by omega
        have hfin := Lib.hid (show clean s.data.toList = true by
          have h := hcl'.out
          rwa [List.take_of_length_le (by rw [← Lib.size_eq]; omega)] at h)
        clear hks
        go_wp2
        go_ret
        exact ⟨by rw [hfin.out]; rfl, hb⟩
end Go.Proofs.YtmmpojhjpghdlaaGreatDoor.Ch
