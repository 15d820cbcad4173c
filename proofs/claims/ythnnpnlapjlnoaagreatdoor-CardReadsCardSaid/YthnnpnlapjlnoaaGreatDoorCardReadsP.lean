/-
  PLAIN LAWS FOR CardReads: a card's text is read as the card.
-/
import Derived.Test.YthnnpnlapjlnoaaGreatDoorCardRefParse
import Derived.Test.YthnnpnlapjlnoaaGreatDoorMgC
set_option linter.unusedVariables false
namespace Go.Proofs.YthnnpnlapjlnoaaGreatDoor.Ca
open Go.Lib Go.RowKit
open Li (LD PD chk pr okT ends nameB parse)

theorem fitF_valid : ∀ (f : Nat) (l : Row) (room n : Nat), Ch.valid (l.drop n) = true → Ch.valid (l.drop (Fo.fitF f l room n)) = true
  | 0, l, room, n, h => h
  | f + 1, l, room, n, h => by
    unfold Fo.fitF
    by_cases h1 : n < l.length
    · rw [if_pos h1]
      by_cases h2 : room < n + Fo.sz (l.drop n)
      · rw [if_pos h2]; exact h
      · rw [if_neg h2]
        refine fitF_valid f l room _ ?_
        have hne : l.drop n ≠ [] := fun e => by
          have := congrArg List.length e
          rw [List.length_drop] at this
          simp at this; omega
        have hs := Ch.valid_step (l.drop n) hne
        rw [h] at hs
        by_cases h0 : (Ch.rune (l.drop n)).2 = 0 ∨ Ch.ctlN (Ch.rune (l.drop n)).1 = true
        · rw [if_pos h0] at hs; cases hs
        · rw [if_neg h0] at hs
          have hz : Fo.sz (l.drop n) = (Ch.rune (l.drop n)).2 := by
            unfold Fo.sz
            rw [if_neg (fun e => h0 (.inl e))]
          rw [hz, ← List.drop_drop]
          exact hs.symm
    · rw [if_neg h1]; exact h
theorem fit_valid (l : Row) (room : Nat) (hr : 74 ≤ room) (h : Ch.valid l = true) : Ch.valid (l.take (Fo.fit l room)) = true ∧ Ch.valid (l.drop (Fo.fit l room)) = true := by
  have h1 : Ch.valid (l.drop (Fo.fit l room)) = true := fitF_valid _ l room 0 h
  by_cases hk : Fo.fit l room ≤ l.length
  · obtain ⟨c1, c2⟩ := Ch.valid_cut l h _ hk
    exact ⟨by rw [c1, ← c2]; exact h1, h1⟩
  · rw [List.take_of_length_le (by omega)]
    exact ⟨h, h1⟩
theorem foldF_valid : ∀ (f : Nat) (l : Row) (room : Nat), 74 ≤ room → Ch.valid l = true → Ch.valid (Fo.foldF f l room) = true
  | 0, l, room, _, _ => rfl
  | f + 1, l, room, hr, h => by
    unfold Fo.foldF
    by_cases h0 : l = []
    · rw [if_pos h0]; rfl
    · rw [if_neg h0]
      obtain ⟨c1, c2⟩ := fit_valid l room hr h
      rw [Ch.valid_join _ _ c1, Li.valid_cons 13 _ (by decide) (by decide), Li.valid_cons 10 _ (by decide) (by decide)]
      by_cases h1 : l.drop (Fo.fit l room) = []
      · rw [if_pos h1]; rfl
      · rw [if_neg h1, Li.valid_cons 32 _ (by decide) (by decide)]
        exact foldF_valid f _ 74 (Nat.le_refl _) c2
theorem foldAll_valid : ∀ (ls : List Row), (∀ l ∈ ls, Ch.valid l = true) → Ch.valid (Fo.foldAll ls) = true
  | [], _ => rfl
  | l :: ls, h => by
    have e : Fo.foldAll (l :: ls) = Fo.foldL l ++ Fo.foldAll ls := by simp [Fo.foldAll]
    have hF : Ch.valid (Fo.foldL l) = true := foldF_valid _ l 75 (by omega) (h l (by simp))
    rw [e, Ch.valid_join _ _ hF]
    exact foldAll_valid ls (fun x hx => h x (by simp [hx]))
theorem inB_blank {c : UInt8} (h : Li.inB c = true) : c ≠ 32 ∧ c ≠ 9 := by
  constructor
  · intro e; rw [e] at h; revert h; decide
  · intro e; rw [e] at h; revert h; decide
theorem nameB_head {l : Row} (h : nameB l = true) : ∃ c t, l = c :: t ∧ Li.inB c = true := by
  unfold Li.nameB at h
  cases l with
  | nil => simp at h
  | cons c t =>
    simp only [List.all_cons, Bool.and_eq_true] at h
    exact ⟨c, t, rfl, h.1.1.1⟩
theorem pr_head {L : LD} (h : Li.Good L) : ∃ c t, pr L = c :: t ∧ Li.inB c = true := by
  obtain ⟨c, t, e, hc⟩ := nameB_head h.name
  rcases h.group with hg | hg
  · refine ⟨c, ?_, ?_, hc⟩
    rotate_left
    · unfold Li.pr; rw [if_pos hg, e]; rfl
  · obtain ⟨c', t', e', hc'⟩ := nameB_head hg
    have hne : ¬ L.group = [] := by rw [e']; simp
    refine ⟨c', ?_, ?_, hc'⟩
    rotate_left
    · unfold Li.pr; rw [if_neg hne, e']; rfl
theorem pr_good {L : LD} (h : Li.Good L) : Fo.goodL (pr L) = true := by
  obtain ⟨c, t, e, hc⟩ := pr_head h
  obtain ⟨h1, h2⟩ := Li.tx_pr L h
  rw [Li.ends_false] at h2
  have hb := inB_blank hc
  unfold Fo.goodL
  have hbl : Fo.headBl (c :: t) = false := by
    show Fo.bl c = false
    unfold Fo.bl
    refine decide_eq_false fun hn => ?_
    rcases hn with hn | hn
    · exact hb.1 (UInt8.toNat_inj.1 hn)
    · exact hb.2 (UInt8.toNat_inj.1 hn)
  rw [e] at h2 ⊢
  rw [hbl]
  simp at h2 ⊢
  exact h2
def fLB : LD := ⟨[], wBEGIN, [], wVCARD⟩
def fLV : LD := ⟨[], wVERSION, [], w40⟩
def fLE : LD := ⟨[], wEND, [], wVCARD⟩
def withF (Ms : List LD) : List LD := fLB :: fLV :: (Ms ++ [fLE])
theorem rows_with (Ms : List LD) : rowsT Ms = (withF Ms).map pr := by
  unfold rowsT withF
  simp only [List.map_cons, List.map_append, List.map_nil]
  rfl
theorem lnF_good : ∀ (Ls acc : List LD), (∀ L ∈ Ls, Li.Good L) → lnF acc (Ls.map pr) = (0, acc ++ Ls)
  | [], acc, _ => by simp [lnF]
  | L :: Ls, acc, h => by
    rw [List.map_cons, lnF_ok (Li.parse_pr L (h L (by simp))), lnF_good Ls _ (fun x hx => h x (by simp [hx]))]
    simp
theorem withF_good {Ms : List LD} (h : ∀ M ∈ Ms, chk M = 0) : ∀ L ∈ withF Ms, Li.Good L := by
  have hB : chk fLB = 0 := by decide +kernel
  have hV : chk fLV = 0 := by decide +kernel
  have hE : chk fLE = 0 := by decide +kernel
  intro L hL
  unfold withF at hL
  simp only [List.mem_cons, List.mem_append, List.not_mem_nil, or_false] at hL
  rcases hL with rfl | rfl | hL | rfl
  · exact Li.good_chk hB
  · exact Li.good_chk hV
  · exact Li.good_chk (h L hL)
  · exact Li.good_chk hE
theorem withF_framed (Ms : List LD) : framedL (withF Ms) = true := by
  have hl : (withF Ms).length = Ms.length + 3 := by unfold withF; simp
  have e1 : (withF Ms).getD 0 default = fLB := rfl
  have e2 : (withF Ms).getD 1 default = fLV := rfl
  have e3 : (withF Ms).getD (Ms.length + 3 - 1) default = fLE := by
    rw [List.getD_eq_getElem?_getD]
    unfold withF
    rw [show Ms.length + 3 - 1 = Ms.length + 1 + 1 by omega, List.getElem?_cons_succ, List.getElem?_cons_succ, List.getElem?_append_right (by omega)]
    simp
  unfold framedL
  rw [hl, e1, e2, e3, decide_eq_true (by omega)]
  decide +kernel
theorem withF_mid (Ms : List LD) : midL (withF Ms) = Ms := by
  have hl : (withF Ms).length = Ms.length + 3 := by unfold withF; simp
  unfold midL
  rw [hl, show Ms.length + 3 - 1 - 2 = Ms.length by omega]
  unfold withF
  simp
theorem pcard_text {Ms : List LD} (hc : checkE Ms = 0) (hl : (cardT Ms).length ≤ 65536) : pcard (cardT Ms) = (0, Ms) := by
  obtain ⟨h1, h2⟩ := checkE_zero.1 hc
  have hg := withF_good h1
  have hv : Ch.valid (cardT Ms) = true := by
    rw [← cardT_fold, rows_with]
    refine foldAll_valid _ fun l hl => ?_
    obtain ⟨L, hL, rfl⟩ := List.mem_map.1 hl
    exact (Li.tx_pr L (hg L hL)).1
  have hR : Fo.R [] (cardT Ms) = some ((withF Ms).map pr) := by
    rw [← cardT_fold, rows_with, Fo.R_all _ [] (fun l hl => by
      obtain ⟨L, hL, rfl⟩ := List.mem_map.1 hl
      exact pr_good (hg L hL))]
    rfl
  unfold pcard
  rw [if_neg (by omega), if_pos hv, hR]
  show pc2 (lnF [] ((withF Ms).map pr)) = _
  rw [lnF_good _ _ hg, List.nil_append, pc2_ok, withF_mid, if_pos ⟨withF_framed Ms, h2⟩]
theorem lnF_chk : ∀ (rows : List Row) (acc : List LD), (∀ L ∈ acc, chk L = 0) → ∀ L ∈ (lnF acc rows).2, chk L = 0
  | [], acc, h => by simpa [lnF] using h
  | r :: rs, acc, h => by
    cases hp : parse r with
    | bad n => rw [lnF_bad hp]; simp
    | ok L =>
      rw [lnF_ok hp]
      refine lnF_chk rs _ fun M hM => ?_
      rcases List.mem_append.1 hM with hM | hM
      · exact h M hM
      · rw [List.mem_singleton.1 hM]; exact Li.chk_good (Li.good_parse hp)
theorem pcard_ok {t : Row} (h : (pcard t).1 = 0) : checkE (pcard t).2 = 0 := by
  unfold pcard at h ⊢
  split at h
  · cases h
  · rename_i hl
    rw [if_neg hl]
    split at h
    · rename_i hv
      rw [if_pos hv]
      cases hR : Fo.R [] t with
      | none => rw [hR] at h; cases h
      | some rows =>
        rw [hR] at h
        have hk := lnF_chk rows [] (fun L hL => by simp at hL)
        revert h hk
        show (pc2 (lnF [] rows)).1 = 0 → _ → checkE (pc2 (lnF [] rows)).2 = 0
        generalize lnF [] rows = p
        obtain ⟨m, Ls⟩ := p
        intro h hk
        by_cases h0 : m = 0
        · subst h0
          rw [pc2_ok] at h ⊢
          by_cases hf : framedL Ls = true ∧ rightB (midL Ls) = true
          · rw [if_pos hf]
            exact checkE_zero.2 ⟨fun L hL => hk L (mid_mem hL), hf.2⟩
          · rw [if_neg hf] at h; cases h
        · rw [pc2_bad h0] at h; exact absurd h h0
    · cases h
set_option maxHeartbeats 16000000 in
set_option maxRecDepth 100000 in
theorem parse_long (T : ByteArray) (w : World) (hlong : 65536 < T.size) :
    Calls Tryz.prog 10 #[.string T] w fun e w' => ParseC T.data.toList e w' ∧ Below w.heap.size w w' := by
  obtain ⟨Z, hZ⟩ : ∃ Z, w.heap.size = Z := ⟨_, rfl⟩
  obtain ⟨w1, hw1⟩ : ∃ w1, w.alloc (.cells #[.slice none 0 0] 25) = w1 := ⟨_, rfl⟩
  have B1 : Below w.heap.size w w1 := by rw [← hw1]; exact (Below.refl _ _).alloc (Nat.le_refl _) _
  have hres : w1.heap[Z]? = some (.cells #[.slice none 0 0] 25 (0, 0)) := by rw [← hw1, ← hZ]; exact heap_alloc_new w _
  have hz : (65536 : Int) < (T.size : Int) := by omega
  have hp : pcard T.data.toList = (11, []) := by unfold pcard; rw [if_pos (by rw [← Lib.size_eq]; exact hlong)]
  have hr2 : (w1.setCell ⟨Z, 0, none⟩ (.slice none 0 0)).heap[Z]? = some (.cells #[.slice none 0 0] 25 (0, 0)) := by simp [World.setCell, Array.getElem?_modify, hres]
  have x1 : w1.cell? ⟨Z, 0, none⟩ = some (.slice none 0 0) := (Lib.cell_of_heap hres 0).trans rfl
  have x2 : w1.frozen? ⟨Z, 0, none⟩ = false := Lib.frozen_of_heap hres 0
  have x3 : (w1.setCell ⟨Z, 0, none⟩ (.slice none 0 0)).cell? ⟨Z, 0, none⟩ = some (.slice none 0 0) := (Lib.cell_of_heap hr2 0).trans rfl
  have X4 : Hid (ParseC T.data.toList (.returned (.tuple #[.agg #[.slice none 0 0], .int .i64 11])) (w1.setCell ⟨Z, 0, none⟩ (.slice none 0 0)) ∧ Below w.heap.size w (w1.setCell ⟨Z, 0, none⟩ (.slice none 0 0))) :=
    Lib.hid ⟨⟨none, 0, 0, by rw [hp]; rfl, by rw [hp]; exact linesNil _⟩, B1.setCell (p := ⟨Z, 0, none⟩) (by show w.heap.size ≤ Z; omega) _⟩
  clear hp hlong hr2 hres B1
  go_enter Tryz.func10, Tryz.ntmps10
  go_wp2
  exact bodyPost_ret (v := .tuple #[.agg #[.slice none 0 0], .int .i64 11]) (by simp [results, Tryz.results10, go_sem, x3]) rfl X4.out
theorem parse_all (T : ByteArray) (w : World) (hT : Ch.Tabs w) :
    Calls Tryz.prog 10 #[.string T] w fun e w' => ParseC T.data.toList e w' ∧ Below w.heap.size w w' := by
  by_cases h : 65536 < T.size
  · exact parse_long T w h
  · exact parse_any T w (by omega) hT
end Go.Proofs.YthnnpnlapjlnoaaGreatDoor.Ca
