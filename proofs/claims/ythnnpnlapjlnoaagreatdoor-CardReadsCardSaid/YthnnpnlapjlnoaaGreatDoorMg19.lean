import Derived.Test.YthnnpnlapjlnoaaGreatDoorMg17
import Derived.Test.YthnnpnlapjlnoaaGreatDoorMg18
import Derived.Test.YthnnpnlapjlnoaaGreatDoorMg15
import Derived.Test.YthnnpnlapjlnoaaGreatDoorMg12
import Derived.Test.YthnnpnlapjlnoaaGreatDoorMg9
import Derived.Test.YthnnpnlapjlnoaaGreatDoorMg10
import Derived.Test.YthnnpnlapjlnoaaGreatDoorMg13
import Derived.Test.YthnnpnlapjlnoaaGreatDoorMg11
import Derived.Test.YthnnpnlapjlnoaaGreatDoorMg8
import Derived.Test.YthnnpnlapjlnoaaGreatDoorMg7
import Derived.Lib.Strings
import Derived.Lib.IndexMore

/-
  PLAIN LAWS OF CANONICAL CARDS: 'canC' (a card's canonical lines), a row in another order ('same_perm'); a right card's canonical lines are right, and canonical already; how long they are.
-/
set_option linter.unusedVariables false
namespace Go.Proofs.YthnnpnlapjlnoaaGreatDoor.Ca
open Li (LD PD canL chk pr)

/-! ### the same elements in another order -/
theorem first_split {α : Type} (p : α → Bool) : ∀ (t r : List α) (a : α), t.filter p = a :: r → ∃ t1 t2, t = t1 ++ a :: t2 ∧ (∀ x ∈ t1, p x = false) ∧ t2.filter p = r
  | [], r, a, h => by cases h
  | b :: t, r, a, h => by
    by_cases hb : p b = true
    · rw [List.filter_cons_of_pos hb] at h
      injection h with h1 h2
      subst h1
      exact ⟨[], t, rfl, (fun x hx => by cases hx), h2⟩
    · have hb' : p b = false := by simpa using hb
      rw [List.filter_cons_of_neg hb] at h
      obtain ⟨t1, t2, rfl, h2, h3⟩ := first_split p t r a h
      exact ⟨b :: t1, t2, rfl, (fun x hx => by
        rcases List.mem_cons.1 hx with rfl | hx
        · exact hb'
        · exact h2 x hx), h3⟩
theorem same_perm {α : Type} (key : α → RowB) : ∀ (s t : List α), Same key s t → s.Perm t
  | [], t, h => by
    cases t with
    | nil => exact List.Perm.nil
    | cons b t =>
      have := h (key b)
      rw [List.filter_cons_of_pos (by simp)] at this
      cases this
  | a :: s, t, h => by
    have h0 := h (key a)
    rw [List.filter_cons_of_pos (by simp)] at h0
    obtain ⟨t1, t2, rfl, h2, h3⟩ := first_split (fun x => decide (key x = key a)) t _ a h0.symm
    have hs : Same key s (t1 ++ t2) := fun m => by
      have hm := h m
      by_cases e : key a = m
      · subst e
        have e0 : t1.filter (fun x => decide (key x = key a)) = [] := List.filter_eq_nil_iff.2 (fun x hx => by rw [h2 x hx]; simp)
        rw [List.filter_append, e0, h3, List.nil_append]
      · rw [List.filter_cons_of_neg (by simpa using e), List.filter_append, List.filter_cons_of_neg (by simpa using e)] at hm
        rw [hm, List.filter_append]
    exact ((same_perm key s (t1 ++ t2) hs).cons a).trans List.perm_middle.symm
theorem perm_sum {s t : List Nat} (h : s.Perm t) : s.sum = t.sum := by
  induction h with
  | nil => rfl
  | cons x _ ih => simp [ih]
  | swap x y l => simp; omega
  | trans _ _ ih1 ih2 => exact ih1.trans ih2
theorem perm_few {s t : List Row} (h : s.Perm t) : few s ↔ few t := by
  unfold few
  rw [h.count_eq, h.count_eq, h.count_eq, h.count_eq, h.count_eq, h.count_eq, h.count_eq, h.count_eq]
theorem right_iff (Ls : List LD) : rightB Ls = true ↔ (∀ L ∈ Ls, okV (Ch.up L.name) L.value = true) ∧ few (namesL Ls) ∧ 0 < (namesL Ls).count kFN := by
  unfold rightB
  rw [Bool.and_eq_true, List.all_eq_true, cntOK_few]; rfl
theorem right_perm {s t : List LD} (h : s.Perm t) (hr : rightB s = true) : rightB t = true := by
  rw [right_iff] at hr ⊢
  have hn : (namesL s).Perm (namesL t) := h.map _
  refine ⟨fun L hL => hr.1 L (h.mem_iff.2 hL), (perm_few hn).1 hr.2.1, by rw [← hn.count_eq]; exact hr.2.2⟩

/-! ### canonical cards -/
def canC (Ls : List LD) : List LD := srt (Ls.map can1)
theorem checkE_zero {Ls : List LD} : checkE Ls = 0 ↔ (∀ L ∈ Ls, chk L = 0) ∧ rightB Ls = true := by
  unfold checkE
  cases h : Ls.find? (fun L => decide (chk L ≠ 0)) with
  | some L =>
    have h1 := List.find?_some h
    have h2 := List.mem_of_find?_eq_some h
    simp only [decide_eq_true_eq] at h1
    constructor
    · intro h3; exact absurd h3 h1
    · rintro ⟨h3, _⟩; exact absurd (h3 L h2) h1
  | none =>
    have h1 : ∀ L ∈ Ls, chk L = 0 := fun L hL => by
      have := List.find?_eq_none.1 h L hL
      simpa using this
    dsimp only
    by_cases hr : rightB Ls = true
    · rw [if_pos hr]; exact ⟨fun _ => ⟨h1, hr⟩, fun _ => rfl⟩
    · rw [if_neg hr]; exact ⟨(fun h => by cases h), fun h => absurd h.2 hr⟩
theorem okV_anew {n v : Row} (h : okV n v = true) : ∃ x, anewV n v = some x := by
  unfold okV at h
  rw [Bool.and_eq_true] at h
  exact Option.isSome_iff_exists.1 h.1
theorem right_anew {Ls : List LD} (h : rightB Ls = true) : ∀ L ∈ Ls, ∃ x, anewV (Ch.up L.name) L.value = some x := fun L hL => okV_anew (((right_iff Ls).1 h).1 L hL)
theorem right_ne {Ls : List LD} (h : rightB Ls = true) : Ls ≠ [] := fun e => by
  have := ((right_iff Ls).1 h).2.2
  rw [e] at this
  exact absurd this (by decide)
theorem names_can (Ls : List LD) : namesL (Ls.map can1) = namesL Ls := by
  unfold namesL
  rw [List.map_map]
  apply List.map_congr_left
  intro L _
  show Ch.up (can1 L).name = _
  rw [can1_name, up_up]
theorem right_can {Ls : List LD} (h : rightB Ls = true) : rightB (Ls.map can1) = true := by
  have ha := right_anew h
  rw [right_iff] at h ⊢
  refine ⟨fun M hM => ?_, by rw [names_can]; exact h.2.1, by rw [names_can]; exact h.2.2⟩
  obtain ⟨L, hL, rfl⟩ := List.mem_map.1 hM
  obtain ⟨x, hx⟩ := ha L hL
  have := h.1 L hL
  rw [can1_is hx]
  show okV (Ch.up (Ch.up L.name)) x = true
  rw [up_up, okV_again hx]; exact this
theorem can_names {Ls : List LD} (h : ∀ L ∈ Ls, chk L = 0) : ∀ M ∈ Ls.map can1, M.name ≠ [] := fun M hM => by
  obtain ⟨L, hL, rfl⟩ := List.mem_map.1 hM
  rw [can1_name]
  intro e
  exact name_ne (h L hL) (List.eq_nil_of_length_eq_zero (by rw [← Ch.up_length, e]; rfl))
theorem srt_perm {X : List LD} (h : ∀ M ∈ X, M.name ≠ []) : (srt X).Perm X := same_perm keyL _ _ (fun m => (srt_spec X h).2 m)
theorem canC_perm {Ls : List LD} (h : ∀ L ∈ Ls, chk L = 0) : (canC Ls).Perm (Ls.map can1) := srt_perm (can_names h)
theorem canC_check {Ls : List LD} (h : checkE Ls = 0) : checkE (canC Ls) = 0 := by
  obtain ⟨h1, h2⟩ := checkE_zero.1 h
  refine checkE_zero.2 ⟨fun M hM => ?_, right_perm (canC_perm h1).symm (right_can h2)⟩
  obtain ⟨L, hL, rfl⟩ := List.mem_map.1 ((canC_perm h1).mem_iff.1 hM)
  obtain ⟨x, hx⟩ := right_anew h2 L hL
  exact chk_can1 hx (h1 L hL)
theorem canC_again {Ls : List LD} (h : checkE Ls = 0) : canC (canC Ls) = canC Ls := by
  obtain ⟨h1, h2⟩ := checkE_zero.1 h
  have hp := canC_perm h1
  have he : (canC Ls).map can1 = canC Ls := by
    conv => rhs; rw [← List.map_id (canC Ls)]
    apply List.map_congr_left
    intro M hM
    obtain ⟨L, hL, rfl⟩ := List.mem_map.1 (hp.mem_iff.1 hM)
    obtain ⟨x, hx⟩ := right_anew h2 L hL
    exact can1_can1 hx
  show srt ((canC Ls).map can1) = canC Ls
  rw [he]
  have hn : ∀ M ∈ canC Ls, M.name ≠ [] := fun M hM => can_names h1 M (hp.mem_iff.1 hM)
  exact (srt_uniq (canC Ls) (canC Ls) hn (srt_spec _ (can_names h1)).1 (fun m => rfl)).symm
/-- two cards whose canonical lines are the same of each name, in their order -/
theorem canC_same {Ls Ms : List LD} (h : ∀ L ∈ Ls, chk L = 0) (h' : ∀ L ∈ Ms, chk L = 0) (hs : ∀ m, (Ls.map can1).filter (fun L => decide (keyL L = m)) = (Ms.map can1).filter (fun L => decide (keyL L = m))) : canC Ls = canC Ms :=
  srt_uniq (Ms.map can1) (canC Ls) (can_names h') (srt_spec _ (can_names h)).1 (fun m => by rw [← hs m]; exact (srt_spec _ (can_names h)).2 m)

/-! ### sizes -/
theorem anewV_len {n v x : Row} (h : anewV n v = some x) : x.length ≤ 2 * v.length := by
  unfold anewV at h
  split at h
  · obtain ⟨t, ht, rfl⟩ := Option.map_eq_some_iff.1 h
    have h1 := Va.text_len ht
    have h2 := Va.put_len t
    omega
  · split at h
    · obtain ⟨t, ht, rfl⟩ := Option.map_eq_some_iff.1 h
      unfold Va.list at ht
      obtain ⟨l, hl, rfl⟩ := Option.map_eq_some_iff.1 ht
      have h1 := Va.putL_listS l
      have h2 := Va.signs_len _ _ l (Nat.le_refl _) hl
      omega
    · split at h
      · obtain ⟨t, ht, rfl⟩ := Option.map_eq_some_iff.1 h
        unfold Va.fields at ht
        obtain ⟨l, hl, rfl⟩ := Option.map_eq_some_iff.1 ht
        have h1 := Va.putF_fldS l
        have h2 := Va.signs_len _ _ l (Nat.le_refl _) hl
        omega
      · cases h; omega
theorem wprms_can : ∀ ps : List PD, (Li.wprms (ps.map Li.canP)).length = (Li.wprms ps).length
  | [] => rfl
  | p :: ps => by
    have ih := wprms_can ps
    unfold Li.wprms at ih ⊢
    rw [List.map_cons, List.flatMap_cons, List.flatMap_cons, List.length_append, List.length_append, ih]
    congr 1
    unfold Li.wprm Li.canP
    simp only [List.length_cons, List.length_append, Ch.up_length]
theorem pr_can {L : LD} {x : Row} (h : anewV (Ch.up L.name) L.value = some x) : (pr (can1 L)).length ≤ 2 * (pr L).length := by
  have hl := anewV_len h
  rw [can1_is h]
  unfold Li.pr
  simp only [List.length_append, List.length_cons, wprms_can]
  have e : (if Ch.up L.group = [] then Ch.up L.name else Ch.up L.group ++ 46 :: Ch.up L.name).length = (if L.group = [] then L.name else L.group ++ 46 :: L.name).length := by
    by_cases hg : L.group = []
    · rw [if_pos hg, if_pos (by rw [hg]; rfl), Ch.up_length]
    · rw [if_neg hg, if_neg (fun e => hg (List.eq_nil_of_length_eq_zero (by rw [← Ch.up_length, e]; rfl)))]
      simp only [List.length_append, List.length_cons, Ch.up_length]
  rw [e]
  omega
/-- how long all lines are, printed -/
def prsum (Ls : List LD) : Nat := (Ls.map fun L => (pr L).length + 1).sum
theorem prsum_mem {Ls : List LD} {L : LD} (h : L ∈ Ls) : (pr L).length + 1 ≤ prsum Ls := by
  unfold prsum
  induction Ls with
  | nil => cases h
  | cons M Ls ih =>
    rw [List.map_cons, List.sum_cons]
    rcases List.mem_cons.1 h with rfl | h
    · omega
    · have := ih h; omega
theorem prsum_len (Ls : List LD) : Ls.length ≤ prsum Ls := by
  unfold prsum
  induction Ls with
  | nil => simp
  | cons M Ls ih => rw [List.map_cons, List.sum_cons, List.length_cons]; omega
theorem prsum_perm {s t : List LD} (h : s.Perm t) : prsum s = prsum t := perm_sum (h.map _)
theorem prsum_can {Ls : List LD} (h : ∀ L ∈ Ls, ∃ x, anewV (Ch.up L.name) L.value = some x) : prsum (Ls.map can1) ≤ 2 * prsum Ls := by
  unfold prsum
  induction Ls with
  | nil => simp
  | cons M Ls ih =>
    simp only [List.map_cons, List.sum_cons]
    have := ih (fun L hL => h L (by simp [hL]))
    obtain ⟨x, hx⟩ := h M (by simp)
    have := pr_can hx
    omega
theorem prsum_canC {Ls : List LD} (h : checkE Ls = 0) : prsum (canC Ls) ≤ 2 * prsum Ls := by
  obtain ⟨h1, h2⟩ := checkE_zero.1 h
  rw [prsum_perm (canC_perm h1)]
  exact prsum_can (right_anew h2)
end Go.Proofs.YthnnpnlapjlnoaaGreatDoor.Ca

/-
  A PARAMETER OF TYPE api.Card: what its reading gives.
-/
set_option linter.unusedVariables false
namespace Go.Proofs.YthnnpnlapjlnoaaGreatDoor.La
open Go.Lib Go.RowKit Go.Shelf Go.ChangeShapes Go.WideShapes Go.ChangeAt Go.Deep Li
open Ca (LinesAt prsum)

theorem laidOut : laidOutB Tryz.prog = true := by kernel_rfl
def bulkC (Ls : List LD) : Nat := (Ls.map fun L => bulkL L + 1).sum
variable {H : Type} {enc : TypeId × Value → H}
set_option maxRecDepth 100000 in
theorem lines_open {W : World} {fuel : Nat} {v : Value} {x : DataW H × List MemPlace} (h : DataW.trod enc Tryz.prog W 0 (fun _ => true) true fuel 23 [v] = some x) : ∃ Ls, LinesAt W v Ls ∧ bulkC Ls ≤ Rows.uptoBulk x.1 := by
  have hce : Tryz.prog.cellsOf 41 = 4 := by kernel_rfl
  have h1s : Tryz.prog.cellsOf 9 = 1 := by kernel_rfl
  have h1v : Tryz.prog.cellsOf 39 = 1 := by kernel_rfl
  rcases open_slice Tryz.underlying23 h with ⟨hcs, hx⟩ | ⟨a, len, cap, m, n, D, Pl, hcs, _, hl, hm, hmm, hx, hi⟩
  · simp at hcs
    subst hcs
    exact ⟨[], Ca.LsOwn.at (Ca.LsOwn.nil 0 W), Nat.zero_le _⟩
  · simp at hcs
    subst hcs
    simp only [if_true] at hmm
    rw [hce] at hi
    obtain ⟨Ls, hLs, hp⟩ := listed (fun i (L : LD) => W.cell? (a.add (i * 4)) = some (sv L.group) ∧ W.cell? ((a.add (i * 4)).add 1) = some (sv L.name) ∧ (∃ u, W.cell? ((a.add (i * 4)).add 2) = some u ∧ PrmsAt W u L.params) ∧ W.cell? ((a.add (i * 4)).add 3) = some (sv L.value) ∧ bulkL L + 1 ≤ Rows.uptoBulk (D i)) len (fun i hil => by
      obtain ⟨cs', hc, ht⟩ := hi i (by omega)
      obtain ⟨_, hcl, hat⟩ := World.cells?_some hc
      obtain ⟨y0, y1, y2, y3, n', hy, _, ht0, ht1, ht2, ht3⟩ := Go.Joins.trod_struct4 Tryz.underlying41 ht
      match cs', hcl with
      | [c0, c1, c2, c3], _ =>
        have e0 := hat 0 (by omega)
        have e1 := hat 1 (by omega)
        have e2 := hat 2 (by omega)
        have e3 := hat 3 (by omega)
        simp only [h1s, h1v, List.drop_zero, List.take_succ_cons, List.take_zero, List.drop_succ_cons] at ht0 ht1 ht2 ht3
        obtain ⟨s0, hs0, hx0, _⟩ := DataW.trod_string Tryz.underlying9 ht0
        obtain ⟨s1, hs1, hx1, _⟩ := DataW.trod_string Tryz.underlying9 ht1
        obtain ⟨s3, hs3, hx3, _⟩ := DataW.trod_string Tryz.underlying9 ht3
        obtain ⟨ps, hps, hb⟩ := prms_open ht2
        simp at hs0 hs1 hs3
        subst hs0; subst hs1; subst hs3
        simp only [Prod.mk.injEq] at hy
        have ez : (a.add (i * 4)).add 0 = a.add (i * 4) := by unfold Addr.add; simp
        rw [ez] at e0
        refine ⟨⟨s0.data.toList, s1.data.toList, ps, s3.data.toList⟩, ?_, ?_, ⟨c2, by simpa using e2, hps⟩, ?_, ?_⟩
        · rw [sv_data]; simpa using e0
        · rw [sv_data]; simpa using e1
        · rw [sv_data]; simpa using e3
        · rw [hy.1, Rows.uptoBulk, Rows.uptoBulkAll, Rows.uptoBulkAll, Rows.uptoBulkAll, Rows.uptoBulkAll, Rows.uptoBulkAll, hx0, hx1, hx3]
          dsimp only
          rw [bulk_string, bulk_string, bulk_string]
          unfold bulkL
          dsimp only
          omega)
    have key : 0 < Ls.length → a = ⟨a.block, a.off, none⟩ ∧ a.block < W.heap.size := fun h0 => by
      have h1 : Ls[0]? = some (Ls[0]'h0) := List.getElem?_eq_getElem _
      have h2 := (hp 0 _ h1).1
      rw [Nat.zero_mul] at h2
      have h3 := add_spot a (spot_none h2)
      have h4 := World.block_lt_of_cell? W (a.add 0) h2
      rw [h3, add_is] at h4
      exact ⟨h3, h4⟩
    refine ⟨Ls, ⟨some a, a.block, a.off, cap, by rw [hLs], by omega, hm, fun h0 => ?_, fun j L hj => ?_⟩, ?_⟩
    · obtain ⟨h3, h4⟩ := key h0
      exact ⟨by rw [← h3], h4⟩
    · obtain ⟨g0, g1, ⟨u, g2, g3⟩, g4, _⟩ := hp j L hj
      obtain ⟨h3, _⟩ := key (by have := (List.getElem?_eq_some_iff.1 hj).1; omega)
      rw [h3, add_is] at g0
      rw [h3, add_is, add_is] at g1 g2 g4
      exact ⟨g0, g1, ⟨u, g2, g3⟩, g4⟩
    · rw [hx, Rows.uptoBulk]
      have := bulk_sum (fun L => bulkL L + 1) Ls D (fun i L hiL => (hp i L hiL).2.2.2.2)
      rw [hLs] at this
      unfold bulkC
      omega
set_option maxRecDepth 100000 in
theorem card_open {base : Nat} {W : World} {v : Value} {d : DataW H} {ps : List MemPlace} (hval : Value.okWide Tryz.prog W .any base 25 v) (h : DataW.Trod enc Tryz.prog W 0 (fun _ => true) true 25 v d ps) :
    ∃ (u : Value) (Ls : List LD), v = .agg #[u] ∧ LinesAt W u Ls ∧ bulkC Ls ≤ Rows.uptoBulk d := by
  obtain ⟨cs, rfl, hsz⟩ := okWide_struct Tryz.underlying25 hval
  have hC : Tryz.prog.cellsOf 25 = 1 := by kernel_rfl
  obtain ⟨c0, rfl⟩ : ∃ c, cs = #[c] := by
    obtain ⟨l⟩ := cs
    have h1 := hsz.trans hC
    match l, h1 with
    | [c], _ => exact ⟨c, rfl⟩
  obtain ⟨fuel, hf⟩ := h
  obtain ⟨y0, n, hx, _, h0⟩ := trod_struct1 Tryz.underlying25 hf
  simp only [Prod.mk.injEq] at hx
  have h1v : Tryz.prog.cellsOf 23 = 1 := by kernel_rfl
  simp only [Value.cells, h1v, List.drop_zero, List.take_succ_cons, List.take_zero] at h0
  obtain ⟨Ls, hL, hb⟩ := lines_open h0
  refine ⟨c0, Ls, rfl, hL, ?_⟩
  rw [hx.1, Rows.uptoBulk, Rows.uptoBulkAll, Rows.uptoBulkAll]
  omega
theorem prsum_bulk (Ls : List LD) : prsum Ls ≤ 3 * bulkC Ls := by
  unfold prsum bulkC
  induction Ls with
  | nil => simp
  | cons L Ls ih =>
    simp only [List.map_cons, List.sum_cons]
    have := pr_bulk L
    omega
end Go.Proofs.YthnnpnlapjlnoaaGreatDoor.La

/-
  A ROW OF LINES OF THE CALL's OWN WHOSE PARAMETERS LIE WHEREVER THEY LAY ('Mix'): append onto it, stores into it.
-/
set_option linter.unusedVariables false
namespace Go.Proofs.YthnnpnlapjlnoaaGreatDoor.Ca
open Go.Lib Go.RowKit
open Li (LD PD sv LineAt PrmsAt)

theorem lcells_app : ∀ (Ls Ms : List LD) (vs us : List Value), Ls.length = vs.length → lcells (Ls ++ Ms) (vs ++ us) = lcells Ls vs ++ lcells Ms us
  | [], Ms, [], us, _ => rfl
  | L :: Ls, Ms, v :: vs, us, h => by
    have := lcells_app Ls Ms vs us (by simpa using h)
    simp only [List.cons_append, lcells, this]
  | [], _, _ :: _, _, h => by simp at h
  | _ :: _, _, [], _, h => by simp at h
theorem lcells_len : ∀ (Ls : List LD) (vs : List Value), Ls.length = vs.length → (lcells Ls vs).length = Ls.length * 4
  | [], [], _ => rfl
  | L :: Ls, v :: vs, h => by
    have := lcells_len Ls vs (by simpa using h)
    simp only [lcells, List.length_cons, this]; omega
  | [], _ :: _, h => by simp at h
  | _ :: _, [], h => by simp at h
theorem lcells_get : ∀ (Ls : List LD) (vs : List Value) (t : Nat) (x : Value), Ls.length = vs.length → (lcells Ls vs)[t]? = some x → ∃ (j : Nat) (L : LD) (u : Value), Ls[j]? = some L ∧ vs[j]? = some u ∧ ((t = j * 4 ∧ x = sv L.group) ∨ (t = j * 4 + 1 ∧ x = sv L.name) ∨ (t = j * 4 + 2 ∧ x = u) ∨ (t = j * 4 + 3 ∧ x = sv L.value))
  | [], [], t, x, _, h => by simp [lcells] at h
  | L :: Ls, v :: vs, t, x, hl, h => by
    by_cases h4 : t < 4
    · refine ⟨0, L, v, rfl, rfl, ?_⟩
      match t, h4 with
      | 0, _ => simp [lcells] at h; exact .inl ⟨rfl, h.symm⟩
      | 1, _ => simp [lcells] at h; exact .inr (.inl ⟨rfl, h.symm⟩)
      | 2, _ => simp [lcells] at h; exact .inr (.inr (.inl ⟨rfl, h.symm⟩))
      | 3, _ => simp [lcells] at h; exact .inr (.inr (.inr ⟨rfl, h.symm⟩))
    · obtain ⟨t, rfl⟩ : ∃ s, t = s + 4 := ⟨t - 4, by omega⟩
      simp only [lcells, List.getElem?_cons_succ] at h
      obtain ⟨j, M, u, h1, h2, h3⟩ := lcells_get Ls vs t x (by simpa using hl) h
      exact ⟨j + 1, M, u, by simpa using h1, by simpa using h2, by
        rcases h3 with ⟨e, f⟩ | ⟨e, f⟩ | ⟨e, f⟩ | ⟨e, f⟩
        · exact .inl ⟨by omega, f⟩
        · exact .inr (.inl ⟨by omega, f⟩)
        · exact .inr (.inr (.inl ⟨by omega, f⟩))
        · exact .inr (.inr (.inr ⟨by omega, f⟩))⟩
  | [], _ :: _, _, _, h, _ => by simp at h
  | _ :: _, [], _, _, h, _ => by simp at h
/-- a row of lines of the call's own; the parameters read in an elder world that has stayed -/
def Mix (B : Nat) (v : Value) (Ls : List LD) (wp w : World) : Prop :=
  ∃ vs : List Value, Ls.length = vs.length ∧ w.ownsRow B 41 4 v Ls.length (lcells Ls vs) ∧ (∀ (j : Nat) (L : LD) (u : Value), Ls[j]? = some L → vs[j]? = some u → PrmsAt wp u L.params) ∧ Below wp.heap.size wp w ∧ wp.heap.size ≤ B
theorem Mix.nil {B : Nat} {wp w : World} (hb : Below wp.heap.size wp w) (hB : wp.heap.size ≤ B) : Mix B (.slice none 0 0) [] wp w := ⟨[], rfl, World.ownsRow_nil w B _ 4, fun j L u h => by simp at h, hb, hB⟩
theorem Mix.kept {B : Nat} {v : Value} {Ls : List LD} {wp w w' : World} (h : Mix B v Ls wp w) (hb : Below w.heap.size w w') : Mix B v Ls wp w' := by
  obtain ⟨vs, h1, h2, h3, h4, h5⟩ := h
  exact ⟨vs, h1, Li.ownsRow_kept h2 hb, h3, belowThen h4 hb, h5⟩
theorem Mix.form {B : Nat} {v : Value} {Ls : List LD} {wp w : World} (h : Mix B v Ls wp w) : ∃ ao c, v = .slice ao Ls.length c := by
  obtain ⟨vs, _, h2, _⟩ := h
  rcases h2.2 with ⟨hv, hn⟩ | ⟨g, cap, cur, e1, _⟩
  · exact ⟨none, 0, by rw [hv, hn]⟩
  · exact ⟨_, _, e1⟩
theorem Mix.at {B : Nat} {v : Value} {Ls : List LD} {wp w : World} (h : Mix B v Ls wp w) : LinesAt w v Ls := by
  obtain ⟨vs, hl, ⟨h1, h2 | ⟨g, cap, cur, e1, e2, e3, e4, e5, e6, e7⟩⟩, hv, hb, _⟩ := h
  · obtain rfl : Ls = [] := List.eq_nil_of_length_eq_zero h2.2
    exact ⟨none, 0, 0, 0, h2.1, by simp, by unfold maxLen; omega, fun h => absurd h (by simp), fun j l hj => by simp at hj⟩
  · refine ⟨_, g, 0, cap, e1, e4, e5, fun _ => ⟨rfl, (Array.getElem?_eq_some_iff.1 e3).1⟩, fun j L hj => ?_⟩
    have hlt := (List.getElem?_eq_some_iff.1 hj).1
    have hu : vs[j]? = some (vs[j]'(by omega)) := List.getElem?_eq_getElem (by omega)
    obtain ⟨c0, c1, c2, c3⟩ := lcells_at Ls vs j L _ hl hj hu
    have key : ∀ i x, i < Ls.length * 4 → (lcells Ls vs)[i]? = some x → w.cell? ⟨g, 0 + i, none⟩ = some x := fun i x hi hx => by
      rw [Lib.cell_of_heap e3, Nat.zero_add]
      have : (cur.toList.take (Ls.length * 4))[i]? = (lcells Ls vs)[i]? := by rw [e7]
      rw [List.getElem?_take, if_pos hi, hx] at this
      rw [← Array.getElem?_toList, this]
    have k1 := key (j * 4 + 1) _ (by omega) c1
    have k2 := key (j * 4 + 2) _ (by omega) c2
    have k3 := key (j * 4 + 3) _ (by omega) c3
    rw [← Nat.add_assoc] at k1 k2 k3
    exact ⟨key _ _ (by omega) c0, k1, ⟨_, k2, (hv j L _ hj hu).kept hb⟩, k3⟩
/-- lines wherever they read, as a source of an append -/
theorem LinesAt.src {w : World} {v : Value} {Ls : List LD} (h : LinesAt w v Ls) : ∃ (A : Option Addr) (b off c : Nat) (us : List Value), v = .slice A Ls.length c ∧ us.length = Ls.length ∧ (0 < Ls.length → A = some ⟨b, off, none⟩ ∧ b < w.heap.size) ∧ (∀ t x, (lcells Ls us)[t]? = some x → w.cell? ⟨b, off + t, none⟩ = some x) ∧ ∀ (j : Nat) (L : LD) (u : Value), Ls[j]? = some L → us[j]? = some u → PrmsAt w u L.params := by
  obtain ⟨A, b, off, c, h1, h2, h3, h4, h5⟩ := h
  obtain ⟨us, hl, hu⟩ := La.listed (fun i (u : Value) => w.cell? ⟨b, off + i * 4 + 2, none⟩ = some u ∧ ∀ L, Ls[i]? = some L → PrmsAt w u L.params) Ls.length (fun i hi => by
    obtain ⟨_, _, ⟨u, g2, g3⟩, _⟩ := h5 i _ (List.getElem?_eq_getElem hi)
    exact ⟨u, g2, fun L hL => by rw [List.getElem?_eq_getElem hi] at hL; cases hL; exact g3⟩)
  refine ⟨A, b, off, c, us, h1, hl, h4, fun t x hx => ?_, fun j L u hL hju => (hu j u hju).2 L hL⟩
  obtain ⟨j, L, u, q1, q2, q3⟩ := lcells_get Ls us t x hl.symm hx
  obtain ⟨g0, g1, _, g4⟩ := h5 j L q1
  have g2 := (hu j u q2).1
  rcases q3 with ⟨rfl, rfl⟩ | ⟨rfl, rfl⟩ | ⟨rfl, rfl⟩ | ⟨rfl, rfl⟩
  · exact g0
  · rw [← Nat.add_assoc]; exact g1
  · rw [← Nat.add_assoc]; exact g2
  · rw [← Nat.add_assoc]; exact g4
theorem prms_one {w : World} {u : Value} {ps : List PD} (h : PrmsAt w u ps) : u.oneCell' = true := by obtain ⟨A, _, _, c, rfl, _⟩ := h; rfl
/-- append onto such a row, of lines wherever they read -/
theorem mix_append {w : World} {ops : Array Oper} {rest : List Oper} {o : Oper} {a : Act} {Q : Exit → Act → World → Prop} (hgd : o.guard = none) (s xo : Operand)
    (ho : o.op = .call { callee := .builtin .append, args := #[s, xo], argTypes := #[23, 23] }) (B : Nat) (v : Value) (Ls : List LD) (wp : World) (hs : a.eval s = v) (hown : Mix B v Ls wp w)
    (A : Option Addr) (b off m c : Nat) (Ms : List LD) (us : List Value) (hx : a.eval xo = .slice A m c) (hm : Ms.length = m) (hu : us.length = m) (hA : 0 < m → A = some ⟨b, off, none⟩) (hc : ∀ t x, (lcells Ms us)[t]? = some x → w.cell? ⟨b, off + t, none⟩ = some x)
    (hP : ∀ (j : Nat) (L : LD) (u : Value), Ms[j]? = some L → us[j]? = some u → PrmsAt wp u L.params) (hl : Ls.length + m ≤ 1099511627776) (hbase : B ≤ w.heap.size)
    (h : ∀ v' w', Mix B v' (Ls ++ Ms) wp w' → Left w B w' → wpList Tryz.prog ops Q rest (a.put o.dst v') w') : wpList Tryz.prog ops Q (o :: rest) a w := by
  obtain ⟨i0, hi, hz0, hz1, hz2⟩ := info_parts infoLine
  obtain ⟨vs, h1, hrow, h3, h4, h5⟩ := hown
  cases A with
  | none =>
    have hm0 : m = 0 := by
      rcases Nat.eq_zero_or_pos m with h0 | h0
      · exact h0
      · exact absurd (hA h0) (by simp)
    subst hm0
    obtain rfl : Ms = [] := List.eq_nil_of_length_eq_zero hm
    refine wpList_plain hgd fun K hK => ?_
    have hrun : (Builtin.append_ #[23, 23] o.type #[v, .slice none 0 c]).run Tryz.prog w = .ok v w := by
      rcases hrow.2 with ⟨rfl, _⟩ | ⟨g, cap, cur, rfl, _, _, hnc, _⟩
      · simp [Builtin.append_, run_underlying Tryz.underlying23, sizeOf, typeInfo, hi, Builtin.lenOf, Builtin.firstCells]
      · simp [Builtin.append_, run_underlying Tryz.underlying23, sizeOf, typeInfo, hi, hnc, Builtin.lenOf, Builtin.firstCells, storeCells]
    have hk := hK _ _ (h v w (by rw [List.append_nil]; exact ⟨vs, h1, hrow, h3, h4, h5⟩) (fun B' A' q _ _ => q))
    unfold Oper.wp execOp
    simp only [ho, resolve, invoke, builtin, Sem.run_bind, Sem.run_pure, Result.andThen_ok, List.map_toArray, List.map_cons, List.map_nil, hs, hx]
    rw [hrun]
    exact hk
  | some ad =>
    have hlen := lcells_len Ms us (by omega)
    refine wpList_append_own _ hgd s xo 23 ho B 41 i0 (.agg #[.string ⟨#[]⟩, .string ⟨#[]⟩, .slice none 0 0, .string ⟨#[]⟩]) 4 72 Tryz.underlying23 hi hz0 hz1 hz2 rfl (by decide) v Ls.length (lcells Ls vs) hs hrow ad m c (lcells Ms us) hx (by rw [hlen, hm]) (fun j u hj => ?_) (fun u hu' => ?_) (by unfold maxLen; omega) (by omega) hbase (fun v' w' h6 h7 _ => h v' w' ?_ ?_)
    · have hlt := (List.getElem?_eq_some_iff.1 hj).1
      obtain rfl := Option.some.inj (hA (by omega))
      have := hc j u hj
      unfold Addr.add
      by_cases hj0 : j = 0
      · subst hj0; simpa using this
      · rw [if_neg hj0]; exact this
    · obtain ⟨t, ht⟩ := List.getElem?_of_mem hu'
      obtain ⟨j, L, y, q1, q2, q3⟩ := lcells_get Ms us t u (by omega) ht
      rcases q3 with ⟨_, e⟩ | ⟨_, e⟩ | ⟨_, e⟩ | ⟨_, e⟩
      · rw [e]; rfl
      · rw [e]; rfl
      · rw [e]; exact prms_one (hP j L y q1 q2)
      · rw [e]; rfl
    · refine ⟨vs ++ us, by simp; omega, ?_, fun j L u hL hju => ?_, h4.grown h7 (by have := h4.size; omega) (fun k hk => Nat.le_trans h5 (hrow.lt k hk).1), h5⟩
      · rw [lcells_app _ _ _ _ h1, List.length_append, hm]; exact h6
      · by_cases hj : j < Ls.length
        · rw [List.getElem?_append_left hj] at hL
          rw [List.getElem?_append_left (by omega)] at hju
          exact h3 j L u hL hju
        · rw [List.getElem?_append_right (by omega)] at hL
          rw [List.getElem?_append_right (by omega)] at hju
          exact hP (j - Ls.length) L u hL (by rw [h1]; exact hju)
    · exact fun B' A' q q1 q2 => q.grown h7 q2 (fun k hk => Nat.le_trans q1 (hrow.lt k hk).1)
/-! ### stores into such a row -/
theorem row_set {w : World} {B : Nat} {e : TypeId} {g n cap : Nat} {xs : List Value} (h : w.ownsRow B e 4 (.slice (some ⟨g, 0, none⟩) n cap) n xs) (t : Nat) (ht : t < n * 4) (x : Value) : (w.setCell ⟨g, t, none⟩ x).ownsRow B e 4 (.slice (some ⟨g, 0, none⟩) n cap) n (xs.set t x) := by
  obtain ⟨h1, h2 | ⟨g', cap', cur, e1, e2, e3, e4, e5, e6, e7⟩⟩ := h
  · have := h2.2; omega
  · injection e1 with e1 _ ec
    injection e1 with e1
    injection e1 with eg _ _
    subst eg; subst ec
    refine ⟨by rw [List.length_set]; exact h1, .inr ⟨g, cap, cur.setIfInBounds t x, rfl, e2, ?_, e4, e5, by rw [Array.size_setIfInBounds]; exact e6, ?_⟩⟩
    · simp [World.setCell, Array.getElem?_modify, e3]
    · rw [Array.toList_setIfInBounds, List.take_set, e7]
theorem lcells_set1 : ∀ (Ls : List LD) (vs : List Value) (j : Nat) (L : LD) (nm : Row), Ls.length = vs.length → Ls[j]? = some L → (lcells Ls vs).set (j * 4 + 1) (sv nm) = lcells (Ls.set j { L with name := nm }) vs
  | L0 :: Ls, v :: vs, 0, L, nm, h, hj => by simp at hj; subst hj; simp [lcells]
  | L0 :: Ls, v :: vs, j + 1, L, nm, h, hj => by
    have := lcells_set1 Ls vs j L nm (by simpa using h) (by simpa using hj)
    rw [show (j + 1) * 4 + 1 = j * 4 + 1 + 1 + 1 + 1 + 1 by omega]
    simp only [lcells, List.set_cons_succ, this]
  | [], _, j, L, nm, _, hj => by simp at hj
  | _ :: _, [], _, _, _, h, _ => by simp at h
theorem lcells_set0 : ∀ (Ls : List LD) (vs : List Value) (j : Nat) (L : LD) (nm : Row), Ls.length = vs.length → Ls[j]? = some L → (lcells Ls vs).set (j * 4) (sv nm) = lcells (Ls.set j { L with group := nm }) vs
  | L0 :: Ls, v :: vs, 0, L, nm, h, hj => by simp at hj; subst hj; simp [lcells]
  | L0 :: Ls, v :: vs, j + 1, L, nm, h, hj => by
    have := lcells_set0 Ls vs j L nm (by simpa using h) (by simpa using hj)
    rw [show (j + 1) * 4 = j * 4 + 1 + 1 + 1 + 1 by omega]
    simp only [lcells, List.set_cons_succ, this]
  | [], _, j, L, nm, _, hj => by simp at hj
  | _ :: _, [], _, _, _, h, _ => by simp at h
theorem lcells_set4 : ∀ (Ls : List LD) (vs : List Value) (j : Nat) (L : LD) (u : Value), Ls.length = vs.length → j < Ls.length → ((((lcells Ls vs).set (j * 4) (sv L.group)).set (j * 4 + 1) (sv L.name)).set (j * 4 + 2) u).set (j * 4 + 3) (sv L.value) = lcells (Ls.set j L) (vs.set j u)
  | L0 :: Ls, v :: vs, 0, L, u, h, hj => by simp [lcells]
  | L0 :: Ls, v :: vs, j + 1, L, u, h, hj => by
    have := lcells_set4 Ls vs j L u (by simpa using h) (by simpa using hj)
    rw [show (j + 1) * 4 = j * 4 + 1 + 1 + 1 + 1 by omega, show j * 4 + 1 + 1 + 1 + 1 + 1 = j * 4 + 1 + 1 + 1 + 1 + 1 from rfl]
    rw [show j * 4 + 1 + 1 + 1 + 1 + 2 = j * 4 + 2 + 1 + 1 + 1 + 1 by omega, show j * 4 + 1 + 1 + 1 + 1 + 3 = j * 4 + 3 + 1 + 1 + 1 + 1 by omega]
    simp only [lcells, List.set_cons_succ, this]
  | [], _, j, L, u, _, hj => by simp at hj
  | _ :: _, [], _, _, _, h, _ => by simp at h
theorem Mix.setName {B g n cap : Nat} {Ls : List LD} {wp w : World} (h : Mix B (.slice (some ⟨g, 0, none⟩) n cap) Ls wp w) (hn : Ls.length = n) {j : Nat} {L : LD} (hj : Ls[j]? = some L) (nm : Row) : Mix B (.slice (some ⟨g, 0, none⟩) n cap) (Ls.set j { L with name := nm }) wp (w.setCell ⟨g, j * 4 + 1, none⟩ (sv nm)) := by
  obtain ⟨vs, h1, h2, h3, h4, h5⟩ := h
  have hlt := (List.getElem?_eq_some_iff.1 hj).1
  have hg : B ≤ g := (h2.lt g rfl).1
  rw [hn] at h2
  refine ⟨vs, by rw [List.length_set]; exact h1, ?_, fun i M u hM hu => ?_, h4.setCell (p := ⟨g, j * 4 + 1, none⟩) (by show _ ≤ g; omega) _, h5⟩
  · rw [List.length_set, hn, ← lcells_set1 Ls vs j L nm h1 hj]
    exact row_set h2 _ (by omega) _
  · rw [List.getElem?_set] at hM
    split at hM
    · rename_i e
      subst e
      have hM' := Option.some.inj hM
      rw [← hM']
      exact h3 j L u hj hu
    · exact h3 i M u hM hu
theorem Mix.setGroup {B g n cap : Nat} {Ls : List LD} {wp w : World} (h : Mix B (.slice (some ⟨g, 0, none⟩) n cap) Ls wp w) (hn : Ls.length = n) {j : Nat} {L : LD} (hj : Ls[j]? = some L) (nm : Row) : Mix B (.slice (some ⟨g, 0, none⟩) n cap) (Ls.set j { L with group := nm }) wp (w.setCell ⟨g, j * 4, none⟩ (sv nm)) := by
  obtain ⟨vs, h1, h2, h3, h4, h5⟩ := h
  have hlt := (List.getElem?_eq_some_iff.1 hj).1
  have hg : B ≤ g := (h2.lt g rfl).1
  rw [hn] at h2
  refine ⟨vs, by rw [List.length_set]; exact h1, ?_, fun i M u hM hu => ?_, h4.setCell (p := ⟨g, j * 4, none⟩) (by show _ ≤ g; omega) _, h5⟩
  · rw [List.length_set, hn, ← lcells_set0 Ls vs j L nm h1 hj]
    exact row_set h2 _ (by omega) _
  · rw [List.getElem?_set] at hM
    split at hM
    · rename_i e
      subst e
      have hM' := Option.some.inj hM
      rw [← hM']
      exact h3 j L u hj hu
    · exact h3 i M u hM hu
theorem Mix.setLine {B g n cap : Nat} {Ls : List LD} {wp w : World} (h : Mix B (.slice (some ⟨g, 0, none⟩) n cap) Ls wp w) (hn : Ls.length = n) {j : Nat} (hj : j < n) (L : LD) (u : Value) (hu : PrmsAt wp u L.params) :
    Mix B (.slice (some ⟨g, 0, none⟩) n cap) (Ls.set j L) wp ((((w.setCell ⟨g, j * 4, none⟩ (sv L.group)).setCell ⟨g, j * 4 + 1, none⟩ (sv L.name)).setCell ⟨g, j * 4 + 2, none⟩ u).setCell ⟨g, j * 4 + 3, none⟩ (sv L.value)) := by
  obtain ⟨vs, h1, h2, h3, h4, h5⟩ := h
  have hg : B ≤ g := (h2.lt g rfl).1
  rw [hn] at h2
  refine ⟨vs.set j u, by rw [List.length_set, List.length_set]; exact h1, ?_, fun i M y hM hy => ?_, ?_, h5⟩
  · rw [List.length_set, hn, ← lcells_set4 Ls vs j L u h1 (by omega)]
    exact row_set (row_set (row_set (row_set h2 _ (by omega) _) _ (by omega) _) _ (by omega) _) _ (by omega) _
  · by_cases e : j = i
    · subst e
      have q1 : j < Ls.length := by rw [hn]; exact hj
      have q2 : j < vs.length := by rw [← h1]; exact q1
      rw [List.getElem?_set_self q1] at hM
      rw [List.getElem?_set_self q2] at hy
      have e1 := Option.some.inj hM
      have e2 := Option.some.inj hy
      subst e1 e2
      exact hu
    · rw [List.getElem?_set_ne e] at hM hy
      exact h3 i M y hM hy
  · have hb : wp.heap.size ≤ g := Nat.le_trans h5 hg
    exact (((h4.setCell (p := ⟨g, j * 4, none⟩) hb _).setCell (p := ⟨g, j * 4 + 1, none⟩) hb _).setCell (p := ⟨g, j * 4 + 2, none⟩) hb _).setCell (p := ⟨g, j * 4 + 3, none⟩) hb _
end Go.Proofs.YthnnpnlapjlnoaaGreatDoor.Ca

/-
  THE WALK OF the laws' small: it returns, whatever it says.
-/
set_option linter.unusedVariables false
namespace Go.Proofs.YthnnpnlapjlnoaaGreatDoor.Ca
open Go.Lib Go.RowKit
open Li (LD PD sv LineAt PrmsAt StrsAt)

theorem sv_size {l : Row} {x : ByteArray} (h : sv l = .string x) : x.data.toList = l := by unfold sv at h; injection h with h; rw [← h]

set_option maxHeartbeats 8000000 in
set_option maxRecDepth 100000 in
theorem small_any (v : Value) (Ls : List LD) (w : World) (h : LinesAt w v Ls) (hn0 : Ls.length ≤ 1099511627776) (hp : ∀ L ∈ Ls, L.params.length ≤ 1099511627776 ∧ ∀ p ∈ L.params, p.vals.length ≤ 1099511627776) :
    Calls Tryz.prog 16 #[.agg #[v]] w fun e w' => (∃ b, e = .returned (.bool b)) ∧ Below w.heap.size w w' := by
  obtain ⟨A, b, off, c, rfl, h1, h2, h3, h4⟩ := h
  obtain ⟨n, hn⟩ : ∃ n, Ls.length = n := ⟨_, rfl⟩
  rw [hn] at h1 h3 hn0 ⊢
  unfold maxLen at h2
  have hn' := Lib.hid hn
  have h3' := Lib.hid h3
  have h4' := Lib.hid h4
  have hp' := Lib.hid hp
  obtain ⟨w1, hw1⟩ : ∃ w1, w.alloc (.cells #[.slice A n c] 25) = w1 := ⟨_, rfl⟩
  have B0 : Below w.heap.size w w1 := by rw [← hw1]; exact (Below.refl _ _).alloc (Nat.le_refl _) _
  have hbox : w1.cell? ⟨w.heap.size, 0, none⟩ = some (.slice A n c) := by rw [← hw1]; simp
  have hz1 : w.heap.size < w1.heap.size := by rw [← hw1]; simp
  clear hn h3 h4 hp
  go_enter Tryz.func16, Tryz.ntmps16
  go_wp2
  clear hw1
  go_loopw [3, 13] (fun s3 s13 wr => ∃ (k : Nat) (z : Int), s13 = .int .i64 (k : Int) ∧ s3 = .int .i64 z ∧ k ≤ n ∧ Below w1.heap.size w1 wr) (fun s3 s13 wr => n - (RowKit.intOf s13).toNat)
  case atStart => exact ⟨0, 0, rfl, rfl, Nat.zero_le _, Below.refl _ _⟩
  case round =>
    obtain ⟨k, z, rfl, rfl, hk, hbw1⟩ := hrel
    have hbw : Below w.heap.size w wr := belowThen B0 hbw1
    by_cases hlt : k < n
    · have hl : Ls[k]? = some (Ls[k]'(by have := hn'.out; omega)) := List.getElem?_eq_getElem _
      obtain ⟨L, hle⟩ : ∃ L, Ls[k]'(by have := hn'.out; omega) = L := ⟨_, rfl⟩
      have hmem : L ∈ Ls := by rw [← hle]; exact List.getElem_mem _
      rw [hle] at hl
      obtain ⟨rfl, hg⟩ := h3'.out (by omega)
      obtain ⟨a1, a2, a4, pA, pn, pc, e1, e2, e4, hpn, hpp, g0, g1, g2, g3⟩ := LinesAt.line h4'.out hg hbw hl
      obtain ⟨hpl, hvl⟩ := hp'.out L hmem
      obtain ⟨wB, hwB⟩ : ∃ wB, wr.alloc (.cells #[.string a1, .string a2, .slice pA pn pc, .string a4] 41) = wB := ⟨_, rfl⟩
      have hbB : Below wr.heap.size wr wB := by rw [← hwB]; exact (Below.refl _ _).alloc (Nat.le_refl _) _
      have hkB : wB.heap[wr.heap.size]? = some (.cells #[.string a1, .string a2, .slice pA pn pc, .string a4] 41 (0, 0)) := by rw [← hwB]; exact heap_alloc_new wr _
      obtain ⟨q0, q1, q2, q3, _, _, _, _⟩ := Li.res4 hkB
      have hPB := hpp.kept hbB
      obtain ⟨pA', pb, po, pc', hpe, x1, x2, x3, x4⟩ := hPB
      rw [← hpn] at hpe x1 x3 hpl
      injection hpe with hpe1 _ hpe3
      subst hpe1; subst hpe3
      unfold maxLen at x2
      have x3' := Lib.hid x3
      have x4' := Lib.hid x4
      have hvl' := Lib.hid hvl
      have hpn' := Lib.hid hpn
      have hBB := Lib.hid (belowThen hbw1 hbB)
      clear hle hl hmem e1 e2 e4 hpn hpp hbB hkB x3 x4 hvl
      go_wp2
      clear hwB
      go_loopw [3, 30] (fun s3 s30 wr => ∃ (j : Nat) (z : Int), s30 = .int .i64 (j : Int) ∧ s3 = .int .i64 z ∧ j ≤ pn ∧ Below wB.heap.size wB wr) (fun s3 s30 wr => pn - (RowKit.intOf s30).toNat)
      case atStart => exact ⟨0, _, rfl, rfl, Nat.zero_le _, Below.refl _ _⟩
      case round =>
        obtain ⟨j, z2, rfl, rfl, hj, hbw2⟩ := hrel
        by_cases hlt2 : j < pn
        · have hjl : j < L.params.length := by rw [← hpn'.out]; exact hlt2
          have hv : L.params[j]? = some L.params[j] := List.getElem?_eq_getElem _
          obtain ⟨V, hV⟩ : ∃ V, L.params[j] = V := ⟨_, rfl⟩
          have hVm : V ∈ L.params := by rw [← hV]; exact List.getElem_mem _
          rw [hV] at hv
          obtain ⟨rfl, hpb⟩ := x3'.out (by omega)
          obtain ⟨y0, u, y1, hsu⟩ := x4'.out j V hv
          rw [← hbw2.cell (p := ⟨pb, po + j * 2, none⟩) hpb] at y0
          rw [← hbw2.cell (p := ⟨pb, po + j * 2 + 1, none⟩) hpb] at y1
          obtain ⟨s1, es1, hs1⟩ := Li.sv_some V.name
          rw [es1] at y0
          have hsu2 := hsu.kept hbw2
          have hvl := hvl'.out V hVm
          obtain ⟨vA, vb, vo, vc, rfl, t1, t2, t3, t4⟩ := hsu2
          obtain ⟨vn, hvn⟩ : ∃ vn, V.vals.length = vn := ⟨_, rfl⟩
          rw [hvn] at y1 t1 t3 hvl
          unfold maxLen at t2
          obtain ⟨wP, hwP⟩ : ∃ wP, wr.alloc (.cells #[.string s1, .slice vA vn vc] 47) = wP := ⟨_, rfl⟩
          have hbP : Below wr.heap.size wr wP := by rw [← hwP]; exact (Below.refl _ _).alloc (Nat.le_refl _) _
          have hkP : wP.heap[wr.heap.size]? = some (.cells #[.string s1, .slice vA vn vc] 47 (0, 0)) := by rw [← hwP]; exact heap_alloc_new wr _
          obtain ⟨m0, m1, _, _⟩ := Li.res2 hkP
          have t3' := Lib.hid t3
          have t4' := Lib.hid t4
          have hvn' := Lib.hid hvn
          have hB2 := Lib.hid (belowThen hbw2 hbP)
          clear hv hV hVm hsu es1 hs1 hvn hkP t3 t4 hjl
          go_wp2
          clear hwP
          go_loopw [3, 42] (fun s3 s42 wr => ∃ (i : Nat) (z : Int), s42 = .int .i64 (i : Int) ∧ s3 = .int .i64 z ∧ i ≤ vn ∧ wr = wP) (fun s3 s42 wr => vn - (RowKit.intOf s42).toNat)
          case atStart => exact ⟨0, _, rfl, rfl, Nat.zero_le _, rfl⟩
          case round =>
            obtain ⟨i, z3, rfl, rfl, hi, rfl⟩ := hrel
            by_cases hlt3 : i < vn
            · have hil : i < V.vals.length := by rw [hvn'.out]; exact hlt3
              have hx : V.vals[i]? = some V.vals[i] := List.getElem?_eq_getElem _
              obtain ⟨rfl, hvb⟩ := t3'.out (by omega)
              have hc := t4'.out i _ hx
              obtain ⟨x, ex, _⟩ := Li.sv_some V.vals[i]
              rw [ex, ← hbP.cell (p := ⟨vb, vo + i, none⟩) hvb] at hc
              clear hx ex
              go_wp2
              go_roundw
              case rel => exact ⟨i + 1, _, by go_num, rfl, by omega, by trivial⟩
              case measure => simp [RowKit.intOf]; omega
            · go_wp2
              · go_ret
                exact ⟨by first | exact ⟨false, rfl⟩ | exact Or.inl rfl | exact Or.inr rfl, belowThen (belowThen B0 hBB.out) hB2.out⟩
              · go_roundw
                case rel => exact ⟨j + 1, _, by go_num, rfl, by omega, hB2.out⟩
                case measure => simp [RowKit.intOf]; omega
        · have hB3 := Lib.hid (belowThen hBB.out hbw2)
          clear hbw2 hBB
          go_wp2
          go_roundw
          case rel => exact ⟨k + 1, _, by go_num, rfl, by omega, hB3.out⟩
          case measure => simp [RowKit.intOf]; omega
    · have hbox2 : wr.cell? ⟨w.heap.size, 0, none⟩ = some (.slice A n c) := (hbw1.cell (p := ⟨w.heap.size, 0, none⟩) hz1).trans hbox
      by_cases hz : z ≤ 8000
      · by_cases hn2 : n ≤ 200
        · have hn3 : (n : Int) ≤ 200 := by omega
          go_wp2
          go_ret
          exact ⟨by first | exact ⟨true, rfl⟩ | exact Or.inl rfl | exact Or.inr rfl, hbw⟩
        · have hn3 : ¬ (n : Int) ≤ 200 := by omega
          go_wp2
          go_ret
          exact ⟨by first | exact ⟨false, rfl⟩ | exact Or.inl rfl | exact Or.inr rfl, hbw⟩
      · go_wp2
        go_ret
        exact ⟨by first | exact ⟨false, rfl⟩ | exact Or.inl rfl | exact Or.inr rfl, hbw⟩
end Go.Proofs.YthnnpnlapjlnoaaGreatDoor.Ca

/-
  THE WALK OF THE REFERENCE's is.
-/
set_option linter.unusedVariables false
namespace Go.Proofs.YthnnpnlapjlnoaaGreatDoor.Ca
open Go.Lib Go.RowKit

def isB (L : Li.LD) (name v : Row) : Bool := decide (L.group = []) && (decide (L.params = []) && (decide (Ch.up L.name = name) && decide (Ch.up L.value = v)))
theorem isB_yes {L : Li.LD} {n v : Row} (h1 : L.group = []) (h2 : L.params = []) (h3 : Ch.up L.name = n) (h4 : Ch.up L.value = v) : isB L n v = true := by
  unfold isB; rw [decide_eq_true h1, decide_eq_true h2, decide_eq_true h3, decide_eq_true h4]; rfl
theorem isB_1 {L : Li.LD} {n v : Row} (h : L.group ≠ []) : isB L n v = false := by unfold isB; rw [decide_eq_false h]; rfl
theorem isB_2 {L : Li.LD} {n v : Row} (h : L.params ≠ []) : isB L n v = false := by unfold isB; rw [decide_eq_false h]; simp
theorem isB_3 {L : Li.LD} {n v : Row} (h : Ch.up L.name ≠ n) : isB L n v = false := by unfold isB; rw [decide_eq_false h]; simp
theorem isB_4 {L : Li.LD} {n v : Row} (h : Ch.up L.value ≠ v) : isB L n v = false := by unfold isB; rw [decide_eq_false h]; simp

set_option maxHeartbeats 8000000 in
set_option maxRecDepth 100000 in
theorem is_any (u : Value) (L : Li.LD) (nm v : ByteArray) (w : World) (hu : Li.LineAt w u L) (hn : L.name.length ≤ 281474976710656) (hv : L.value.length ≤ 281474976710656) :
    Calls Tryz.prog 31 #[u, .string nm, .string v] w fun e w' => e = .returned (.bool (isB L nm.data.toList v.data.toList)) ∧ Below w.heap.size w w' := by
  obtain ⟨pv, rfl, A, b, o, c, rfl, _⟩ := hu
  obtain ⟨a1, ea1, ha1⟩ := Li.sv_some L.group
  obtain ⟨a2, ea2, ha2⟩ := Li.sv_some L.name
  obtain ⟨a4, ea4, ha4⟩ := Li.sv_some L.value
  obtain ⟨R, hR⟩ : ∃ R, isB L nm.data.toList v.data.toList = R := ⟨_, rfl⟩
  obtain ⟨n, hnl⟩ : ∃ n, L.params.length = n := ⟨_, rfl⟩
  rw [ea1, ea2, ea4, hR, hnl]
  have hs1 : a1.size = L.group.length := by rw [Lib.size_eq, ha1]
  obtain ⟨U1, hU1⟩ : ∃ U : ByteArray, (⟨(Ch.up a2.data.toList).toArray⟩ : ByteArray) = U := ⟨_, rfl⟩
  obtain ⟨U2, hU2⟩ : ∃ U : ByteArray, (⟨(Ch.up a4.data.toList).toArray⟩ : ByteArray) = U := ⟨_, rfl⟩
  have c1 := fun W => Ch.refUpper_any a2 W (by rw [Lib.size_eq, ha2]; exact hn)
  have c2 := fun W => Ch.refUpper_any a4 W (by rw [Lib.size_eq, ha4]; exact hv)
  rw [hU1] at c1
  rw [hU2] at c2
  have hd1 : U1.data.toList = Ch.up L.name := by rw [← hU1, ha2]
  have hd2 : U2.data.toList = Ch.up L.value := by rw [← hU2, ha4]
  obtain ⟨wb, hwb⟩ : ∃ wb, (w.alloc (.cells #[.string a1, .string a2, .slice A n c, .string a4] 41)) = wb := ⟨_, rfl⟩
  have hbox : Below w.heap.size w wb := by rw [← hwb]; exact (Below.refl _ _).alloc (Nat.le_refl _) _
  have hkb : wb.heap[w.heap.size]? = some (.cells #[.string a1, .string a2, .slice A n c, .string a4] 41 (0, 0)) := by rw [← hwb]; exact heap_alloc_new w _
  obtain ⟨l0, l1, l2, l3, m0, m1, m2, m3⟩ := Li.res4 hkb
  have hlt : w.heap.size < wb.heap.size := (Array.getElem?_eq_some_iff.1 hkb).1
  have hkb' := Lib.hid hkb
  have hwb' := Lib.hid hwb
  clear ea1 ea2 ea4 ha1 ha2 ha4 hU1 hU2 hkb hwb
  by_cases hg : L.group = []
  · have z1 : a1.size ≤ 0 := by rw [hs1, hg]; exact Nat.le_refl _
    have z1' : ((a1.size : Int) == 0) = true := beq_iff_eq.2 (by omega)
    by_cases hp : L.params = []
    · have z2 : n ≤ 0 := by rw [← hnl, hp]; exact Nat.le_refl _
      have z2' : ((n : Int) == 0) = true := beq_iff_eq.2 (by omega)
      by_cases hE : U1 = nm
      · subst hE
        by_cases hF : U2 = v
        · subst hF
          have hf := Lib.hid (hR.symm.trans (isB_yes hg hp hd1.symm hd2.symm))
          clear hR hd1 hd2 hg hp hs1 hnl
          go_enter Tryz.func31, Tryz.ntmps31
          go_upto_region 1 with fail
          rw [hwb'.out]
          go_wp2_with fail
          go_at_call 22
          refine (c1 _).mono ?_
          rintro e w2 ⟨rfl, hb2⟩
          have hk2 := (hb2.block _ hlt).trans hkb'.out
          obtain ⟨k0, k1, k2, k3, _, _, _, _⟩ := Li.res4 hk2
          have hB2 := Li.below_then hbox hb2
          clear hk2 c1 hb2
          go_wp2_with fail
          go_at_call 22
          refine (c2 _).mono ?_
          rintro e w3 ⟨rfl, hb3⟩
          have hB3 := Li.below_then hB2 hb3
          clear c2 hb3 k0 k1 k2 k3
          go_wp2
          go_ret
          exact ⟨retBool hf.out.symm, hB3⟩
        · have hf := Lib.hid (hR.symm.trans (isB_4 (L := L) (n := U1.data.toList) (fun e => hF (by rw [← Lib.mk_data U2, ← Lib.mk_data v, hd2, e]))))
          have q2 := nListEq hF
          clear hR hd1 hd2 hg hp hs1 hnl hF
          go_enter Tryz.func31, Tryz.ntmps31
          go_upto_region 1 with fail
          rw [hwb'.out]
          go_wp2_with fail
          go_at_call 22
          refine (c1 _).mono ?_
          rintro e w2 ⟨rfl, hb2⟩
          have hk2 := (hb2.block _ hlt).trans hkb'.out
          obtain ⟨k0, k1, k2, k3, _, _, _, _⟩ := Li.res4 hk2
          have hB2 := Li.below_then hbox hb2
          clear hk2 c1 hb2
          go_wp2_with fail
          go_at_call 22
          refine (c2 _).mono ?_
          rintro e w3 ⟨rfl, hb3⟩
          have hB3 := Li.below_then hB2 hb3
          clear c2 hb3 k0 k1 k2 k3
          go_wp2
          go_ret
          exact ⟨retBool hf.out.symm, hB3⟩
      · have hf := Lib.hid (hR.symm.trans (isB_3 (L := L) (v := v.data.toList) (fun e => hE (by rw [← Lib.mk_data U1, ← Lib.mk_data nm, hd1, e]))))
        have q1 := nListEq hE
        clear hR hd1 hd2 hg hp hs1 hnl hE c2
        go_enter Tryz.func31, Tryz.ntmps31
        go_upto_region 1 with fail
        rw [hwb'.out]
        go_wp2_with fail
        go_at_call 22
        refine (c1 _).mono ?_
        rintro e w2 ⟨rfl, hb2⟩
        have hB2 := Li.below_then hbox hb2
        clear c1 hb2
        go_wp2
        go_ret
        exact ⟨retBool hf.out.symm, hB2⟩
    · have z2 : 0 < n := by rw [← hnl]; exact List.length_pos_iff.2 hp
      have z2' : ((n : Int) == 0) = false := beq_eq_false_iff_ne.2 (by omega)
      have hf := Lib.hid (hR.symm.trans (isB_2 hp))
      clear hR hd1 hd2 hg hp hs1 hnl c1 c2
      go_enter Tryz.func31, Tryz.ntmps31
      go_upto_region 1 with fail
      rw [hwb'.out]
      go_wp2
      go_ret
      exact ⟨retBool hf.out.symm, hbox⟩
  · have z1 : 0 < a1.size := by rw [hs1]; exact List.length_pos_iff.2 hg
    have z1' : ((a1.size : Int) == 0) = false := beq_eq_false_iff_ne.2 (by omega)
    have hf := Lib.hid (hR.symm.trans (isB_1 hg))
    clear hR hd1 hd2 hg hs1 hnl c1 c2
    go_enter Tryz.func31, Tryz.ntmps31
    go_upto_region 1 with fail
    rw [hwb'.out]
    go_wp2
    go_ret
    exact ⟨retBool hf.out.symm, hbox⟩
end Go.Proofs.YthnnpnlapjlnoaaGreatDoor.Ca

/-
  PLAIN LAWS OF LAYER fold: nothing of the program is run here. Rows and lines of a text ('R': what the rows of a text make of the lines so far), good lines, the size of a character, pieces of a folded line.
-/
set_option linter.unusedVariables false
namespace Go.Proofs.YthnnpnlapjlnoaaGreatDoor.Fo
open Go.Lib

abbrev Row := List UInt8
def bl (x : UInt8) : Bool := decide (x.toNat = 32 ∨ x.toNat = 9)
def headBl : Row → Bool
  | [] => false
  | x :: _ => bl x
def stripR (l : Row) : Row := trimSuffix l [13]
def okRow (r : Row) : Bool := !r.isEmpty && !r.contains 13
def gstep (out : List Row) (r : Row) : Option (List Row) :=
  if okRow r = true then (if headBl r = true then (if out = [] then none else some (out.dropLast ++ [out.getLast?.getD [] ++ r.tail])) else some (out ++ [r])) else none
def rowsStep (p : List Row × Row) (x : UInt8) : List Row × Row := if x = 10 then (p.1 ++ [stripR p.2], []) else (p.1, p.2 ++ [x])
def rows (t : Row) : List Row × Row := t.foldl rowsStep ([], [])
def run (out : List Row) : List Row → Option (List Row)
  | [] => some out
  | r :: rs => (gstep out r).bind fun o => run o rs
def R (out : List Row) (t : Row) : Option (List Row) := if (rows t).2 = [] then run out (rows t).1 else none

theorem run_append (out : List Row) (a b : List Row) : run out (a ++ b) = (run out a).bind fun o => run o b := by
  induction a generalizing out with
  | nil => rfl
  | cons r a ih =>
    simp only [List.cons_append, run]
    cases gstep out r with
    | none => rfl
    | some o => simpa using ih o

theorem fold_rows (p : List Row) (c t : Row) : t.foldl rowsStep (p, c) = (p ++ (t.foldl rowsStep ([], c)).1, (t.foldl rowsStep ([], c)).2) := by
  induction t generalizing p c with
  | nil => simp
  | cons x t ih =>
    simp only [List.foldl_cons]
    by_cases h : x = 10
    · simp only [rowsStep, h, if_true, List.nil_append]
      rw [ih (p ++ [stripR c]) [], ih [stripR c] []]
      simp
    · simp only [rowsStep, h, if_false]
      exact ih p (c ++ [x])

theorem fold_free (p : List Row) (c a : Row) (h : 10 ∉ a) : a.foldl rowsStep (p, c) = (p, c ++ a) := by
  induction a generalizing c with
  | nil => simp
  | cons x a ih =>
    have hx : x ≠ 10 := fun e => h (by simp [e])
    simp only [List.foldl_cons, rowsStep, hx, if_false]
    rw [ih (c ++ [x]) (fun hm => h (by simp [hm]))]
    simp

theorem rows_cut (a t : Row) (h : 10 ∉ a) : rows (a ++ 10 :: t) = (stripR a :: (rows t).1, (rows t).2) := by
  unfold rows
  rw [List.foldl_append, fold_free _ _ _ h, List.foldl_cons]
  simp only [rowsStep, if_true, List.nil_append]
  rw [fold_rows]
  rfl
theorem R_nil (out : List Row) : R out [] = some out := rfl
theorem R_cut (out : List Row) (a t : Row) (h : 10 ∉ a) : R out (a ++ 10 :: t) = (gstep out (stripR a)).bind fun o => R o t := by
  unfold R
  rw [rows_cut a t h]
  by_cases hr : (rows t).2 = []
  · simp only [hr, if_true, run]
  · simp only [hr, if_false]
    cases gstep out (stripR a) <;> rfl
theorem R_free (out : List Row) (t : Row) (h : 10 ∉ t) (hne : t ≠ []) : R out t = none := by
  unfold R rows
  rw [fold_free _ _ _ h]
  simp [hne]

/-- a text cut at its first line feed -/
theorem cut_feed (t : Row) : (10 ∉ t ∧ cut t [10] = (t, [], false)) ∨ ∃ a r, 10 ∉ a ∧ t = a ++ 10 :: r ∧ cut t [10] = (a, r, true) := by
  induction t with
  | nil => left; exact ⟨by simp, by decide⟩
  | cons x t ih =>
    by_cases hx : x = 10
    · subst hx
      right
      refine ⟨[], t, by simp, rfl, ?_⟩
      have : index (10 :: t) [10] = 0 := by unfold index; simp
      unfold cut
      rw [this]
      simp
    · have hp : ([10] : Row).isPrefixOf (x :: t) = false := by simp [List.isPrefixOf]; exact fun h => hx h.symm
      have hi : index (x :: t) [10] = if index t [10] == -1 then -1 else index t [10] + 1 := by
        conv => lhs; unfold index
        rw [hp]; simp
      have hge := index_ge t [10]
      rcases ih with ⟨h1, h2⟩ | ⟨a, r, h1, h2, h3⟩
      · left
        have hn : ¬ 0 ≤ index t [10] := fun h => by unfold cut at h2; rw [if_pos h] at h2; simp at h2
        have h' : index (x :: t) [10] = -1 := by rw [hi, if_pos (by simp; omega)]
        refine ⟨by simp [h1]; exact fun h => hx h.symm, ?_⟩
        unfold cut
        rw [h', if_neg (by omega)]
      · right
        have hn : 0 ≤ index t [10] := by
          rcases Int.lt_or_le (index t [10]) 0 with h | h
          · unfold cut at h3; rw [if_neg (by omega)] at h3; simp at h3
          · exact h
        have h' : index (x :: t) [10] = index t [10] + 1 := by rw [hi, if_neg (by simp; omega)]
        refine ⟨x :: a, r, by simp [h1]; exact fun h => hx h.symm, by rw [h2]; rfl, ?_⟩
        unfold cut at h3 ⊢
        rw [if_pos hn] at h3
        rw [h', if_pos (by omega)]
        simp only [Prod.mk.injEq] at h3
        obtain ⟨e1, e2, _⟩ := h3
        have e : (index t [10] + 1).toNat = (index t [10]).toNat + 1 := by omega
        rw [e, show (index t [10]).toNat + 1 + ([10] : Row).length = ((index t [10]).toNat + ([10] : Row).length) + 1 by omega, List.drop_succ_cons, List.take_succ_cons, e1, e2]

theorem contains_one (t : Row) (c : UInt8) : Lib.contains t [c] = t.contains c := by
  induction t with
  | nil => rfl
  | cons x t ih =>
    have hge := index_ge t [c]
    unfold Lib.contains at ih ⊢
    conv => lhs; unfold index
    by_cases hx : c = x
    · subst hx; simp
    · have hp : ([c] : Row).isPrefixOf (x :: t) = false := by simp [List.isPrefixOf, hx]
      rw [hp]
      have : (x :: t).contains c = t.contains c := by simp [hx]
      rw [this, ← ih]
      by_cases h : index t [c] = -1
      · simp [h]
      · have h1 : (index t [c] == -1) = false := by simpa using h
        simp only [Bool.false_eq_true, if_false, h1]
        rw [decide_eq_true (show (0 : Int) ≤ index t [c] + 1 by omega), decide_eq_true (show (0 : Int) ≤ index t [c] by omega)]

/-! ### rows -/
theorem strip_snoc (a : Row) : stripR (a ++ [13]) = a := by
  unfold stripR trimSuffix hasSuffix
  rw [if_pos (by simp)]
  simp
theorem strip_no (a : Row) (h : 13 ∉ a) : stripR a = a := by
  unfold stripR trimSuffix hasSuffix
  rw [if_neg]
  intro hs
  have := List.isSuffixOf_iff_suffix.1 hs
  exact h (this.subset (by simp))
theorem strip_cases (a : Row) : stripR a = a ∨ a = stripR a ++ [13] := by
  unfold stripR trimSuffix hasSuffix
  by_cases h : ([13] : Row).isSuffixOf a = true
  · right
    rw [if_pos h]
    obtain ⟨b, hb⟩ := List.isSuffixOf_iff_suffix.1 h
    subst hb
    simp
  · left; rw [if_neg h]
theorem strip_head (a : Row) (h : stripR a ≠ []) : headBl (stripR a) = headBl a ∧ ∃ x r, a = x :: r ∧ headBl (stripR a) = bl x := by
  rcases strip_cases a with e | e
  · rw [e] at h ⊢
    cases a with
    | nil => exact absurd rfl h
    | cons x r => exact ⟨rfl, x, r, rfl, rfl⟩
  · generalize stripR a = b at e h
    subst e
    cases b with
    | nil => exact absurd rfl h
    | cons x r => exact ⟨rfl, x, r ++ [13], rfl, rfl⟩
theorem strip_len (a : Row) : (stripR a).length ≤ a.length := trimSuffix_le a [13]

theorem gstep_bad (out : List Row) (r : Row) (h : okRow r = false) : gstep out r = none := by unfold gstep; rw [h]; rfl
theorem gstep_new (out : List Row) (r : Row) (h : okRow r = true) (hb : headBl r = false) : gstep out r = some (out ++ [r]) := by unfold gstep; rw [h, hb]; rfl
theorem gstep_none (r : Row) (hb : headBl r = true) : gstep [] r = none := by
  unfold gstep
  rw [hb]
  cases okRow r <;> rfl
theorem gstep_more (out : List Row) (l r : Row) (h : okRow r = true) (hb : headBl r = true) : gstep (out ++ [l]) r = some (out ++ [l ++ r.tail]) := by
  unfold gstep
  rw [h, hb]
  simp

/-! ### good lines -/
def goodL (l : Row) : Bool := !l.isEmpty && !headBl l && !l.contains 13 && !l.contains 10

theorem head_tail (r : Row) (h : okRow r = true) (hb : headBl r = false) (hn : 10 ∉ r) : goodL r = true := by
  unfold okRow at h
  unfold goodL
  simp only [Bool.and_eq_true, Bool.not_eq_true'] at h ⊢
  refine ⟨⟨⟨h.1, hb⟩, h.2⟩, ?_⟩
  simpa using hn
theorem good_more (l r : Row) (h : goodL l = true) (hr : okRow r = true) (hn : 10 ∉ r) : goodL (l ++ r.tail) = true := by
  unfold okRow at hr
  unfold goodL at h ⊢
  simp only [Bool.and_eq_true, Bool.not_eq_true'] at h hr ⊢
  obtain ⟨⟨⟨h1, h2⟩, h3⟩, h4⟩ := h
  cases l with
  | nil => simp at h1
  | cons x l =>
    refine ⟨⟨⟨by simp, h2⟩, ?_⟩, ?_⟩
    · have hh : 13 ∉ x :: l := by simpa using h3
      have hh2 : 13 ∉ r := by simpa using hr.2
      have : 13 ∉ (x :: l) ++ r.tail := fun hm => by
        rcases List.mem_append.1 hm with hm | hm
        · exact hh hm
        · exact hh2 (List.mem_of_mem_tail hm)
      simpa using this
    · have hh : 10 ∉ x :: l := by simpa using h4
      have : 10 ∉ (x :: l) ++ r.tail := fun hm => by
        rcases List.mem_append.1 hm with hm | hm
        · exact hh hm
        · exact hn (List.mem_of_mem_tail hm)
      simpa using this

theorem gstep_good (out o : List Row) (r : Row) (h : ∀ l ∈ out, goodL l = true) (hn : 10 ∉ r) (hg : gstep out r = some o) : ∀ l ∈ o, goodL l = true := by
  unfold gstep at hg
  by_cases h1 : okRow r = true
  · rw [if_pos h1] at hg
    by_cases h2 : headBl r = true
    · rw [if_pos h2] at hg
      by_cases h3 : out = []
      · rw [if_pos h3] at hg; cases hg
      · rw [if_neg h3] at hg
        obtain rfl := Option.some.inj hg
        intro l hl
        rcases List.mem_append.1 hl with hl | hl
        · exact h l ((List.dropLast_sublist out).subset hl)
        · obtain rfl : l = _ := by simpa using hl
          rw [List.getLast?_eq_some_getLast h3]
          exact good_more _ r (h _ (List.getLast_mem h3)) h1 hn
    · rw [if_neg h2] at hg
      obtain rfl := Option.some.inj hg
      intro l hl
      rcases List.mem_append.1 hl with hl | hl
      · exact h l hl
      · obtain rfl : l = r := by simpa using hl
        exact head_tail l h1 (by simpa using h2) hn
  · rw [if_neg h1] at hg; cases hg

theorem rows_no (t : Row) : ∀ (p : List Row) (c : Row), (∀ r ∈ p, 10 ∉ r) → 10 ∉ c → ∀ r ∈ (t.foldl rowsStep (p, c)).1, 10 ∉ r := by
  induction t with
  | nil => intro p c hp _; exact hp
  | cons x t ih =>
    intro p c hp hc
    simp only [List.foldl_cons]
    by_cases hx : x = 10
    · simp only [rowsStep, hx, if_true]
      refine ih _ _ (fun r hr => ?_) (by simp)
      rcases List.mem_append.1 hr with hr | hr
      · exact hp r hr
      · obtain rfl : r = stripR c := by simpa using hr
        intro hm
        rcases strip_cases c with e | e
        · rw [e] at hm; exact hc hm
        · exact hc (by rw [e]; exact List.mem_append_left _ hm)
    · simp only [rowsStep, hx, if_false]
      refine ih _ _ hp (fun hm => ?_)
      rcases List.mem_append.1 hm with hm | hm
      · exact hc hm
      · exact hx (List.mem_singleton.1 hm).symm
theorem run_good : ∀ (rs : List Row) (out o : List Row), (∀ l ∈ out, goodL l = true) → (∀ r ∈ rs, 10 ∉ r) → run out rs = some o → ∀ l ∈ o, goodL l = true
  | [], out, o, h, _, hr => by
    obtain rfl := Option.some.inj hr
    exact h
  | r :: rs, out, o, h, hn, hr => by
    unfold run at hr
    cases hg : gstep out r with
    | none => rw [hg] at hr; cases hr
    | some o1 =>
      rw [hg] at hr
      exact run_good rs o1 o (gstep_good out o1 r h (hn r (by simp)) hg) (fun x hx => hn x (by simp [hx])) hr
theorem R_good (t : Row) (o : List Row) (h : R [] t = some o) : ∀ l ∈ o, goodL l = true := by
  unfold R at h
  by_cases hc : (rows t).2 = []
  · rw [if_pos hc] at h
    exact run_good _ [] o (by simp) (rows_no t [] [] (by simp) (by simp)) h
  · rw [if_neg hc] at h; cases h

/-! ### how much there is -/
def tot (ls : List Row) : Nat := (ls.map fun l => l.length + 1).sum
theorem tot_append (a b : List Row) : tot (a ++ b) = tot a + tot b := by simp [tot]
theorem gstep_tot (out o : List Row) (r : Row) (h : gstep out r = some o) : tot o ≤ tot out + r.length + 1 := by
  unfold gstep at h
  by_cases h1 : okRow r = true
  · rw [if_pos h1] at h
    by_cases h2 : headBl r = true
    · rw [if_pos h2] at h
      by_cases h3 : out = []
      · rw [if_pos h3] at h; cases h
      · rw [if_neg h3] at h
        obtain rfl := Option.some.inj h
        rw [List.getLast?_eq_some_getLast h3]
        have e : tot out = tot out.dropLast + ((out.getLast h3).length + 1) := by
          conv => lhs; rw [← List.dropLast_concat_getLast h3]
          rw [tot_append]; simp [tot]
        rw [tot_append, e]
        have : r.tail.length ≤ r.length := by simp
        simp [tot]
        omega
    · rw [if_neg h2] at h
      obtain rfl := Option.some.inj h
      rw [tot_append]
      simp [tot]
      omega
  · rw [if_neg h1] at h; cases h
theorem run_tot : ∀ (rs : List Row) (out o : List Row), run out rs = some o → tot o ≤ tot out + tot rs
  | [], out, o, h => by obtain rfl := Option.some.inj h; omega
  | r :: rs, out, o, h => by
    unfold run at h
    cases hg : gstep out r with
    | none => rw [hg] at h; cases h
    | some o1 =>
      rw [hg] at h
      have h1 := gstep_tot out o1 r hg
      have h2 := run_tot rs o1 o h
      have : tot (r :: rs) = r.length + 1 + tot rs := by simp [tot]
      omega
theorem fold_tot (t : Row) : ∀ (p : List Row) (c : Row), tot (t.foldl rowsStep (p, c)).1 + (t.foldl rowsStep (p, c)).2.length ≤ tot p + c.length + t.length := by
  induction t with
  | nil => intro p c; simp
  | cons x t ih =>
    intro p c
    simp only [List.foldl_cons, List.length_cons]
    by_cases hx : x = 10
    · simp only [rowsStep, hx, if_true]
      have h := ih (p ++ [stripR c]) []
      have hl := strip_len c
      have e : tot (p ++ [stripR c]) = tot p + ((stripR c).length + 1) := by rw [tot_append]; simp [tot]
      simp only [List.length_nil] at h
      omega
    · simp only [rowsStep, hx, if_false]
      have h := ih p (c ++ [x])
      simp only [List.length_append, List.length_cons, List.length_nil] at h
      omega
theorem R_tot (t : Row) (o : List Row) (h : R [] t = some o) : tot o ≤ t.length := by
  unfold R at h
  by_cases hc : (rows t).2 = []
  · rw [if_pos hc] at h
    have h1 := run_tot _ _ _ h
    have h2 : tot (rows t).1 + (rows t).2.length ≤ tot [] + 0 + t.length := fold_tot t [] []
    have h3 : tot ([] : List Row) = 0 := rfl
    omega
  · rw [if_neg hc] at h; cases h
theorem tot_len (o : List Row) : o.length ≤ tot o := by
  induction o with
  | nil => simp
  | cons x o ih =>
    have : tot (x :: o) = x.length + 1 + tot o := by simp [tot]
    simp only [List.length_cons]
    omega
theorem tot_get (o : List Row) (l : Row) (h : l ∈ o) : l.length + 1 ≤ tot o := by
  induction o with
  | nil => simp at h
  | cons x o ih =>
    have e : tot (x :: o) = x.length + 1 + tot o := by simp [tot]
    rcases List.mem_cons.1 h with rfl | h
    · omega
    · have := ih h; omega
end Go.Proofs.YthnnpnlapjlnoaaGreatDoor.Fo
