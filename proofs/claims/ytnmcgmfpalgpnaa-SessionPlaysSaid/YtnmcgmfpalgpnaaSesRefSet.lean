/-
  THE WALK OF THE REFERENCE's Set.
-/
import Derived.Test.YtnmcgmfpalgpnaaSesRefOpen
set_option linter.unusedVariables false
namespace Go.Proofs.Ytnmcgmfpalgpnaa.Se
open Go.Lib Go.RowKit

def prev {α : Type} (k : Int) (l : Tb α) : Nat → Int
  | 0 => k
  | j + 1 => ((l[j]?).map Ro.id).getD 0
theorem prev_cons {α : Type} (k : Int) (r : Ro α) (l : Tb α) (j : Nat) : prev k (r :: l) (j + 1) = prev r.id l j := by
  cases j <;> simp [prev]
theorem prev_some {α : Type} {k : Int} {l : Tb α} {j : Nat} {r : Ro α} (h : l[j]? = some r) : prev k l (j + 1) = r.id := by
  simp [prev, h]
def okRo {α : Type} (p : Int) (r : Ro α) : Prop := p < r.id ∧ 0 ≤ r.last ∧ r.id ≤ r.used
theorem right_iff {α : Type} : ∀ (l : Tb α) (k : Int), rightT k l = true ↔ ∀ (i : Nat) (r : Ro α), l[i]? = some r → okRo (prev k l i) r
  | [], k => ⟨fun _ i r h => by simp at h, fun _ => rfl⟩
  | r :: l, k => by
    unfold rightT
    rw [Bool.and_eq_true, Bool.and_eq_true, Bool.and_eq_true, decide_eq_true_iff, decide_eq_true_iff, decide_eq_true_iff, right_iff l r.id]
    constructor
    · rintro ⟨⟨⟨h1, h2⟩, h3⟩, h4⟩ i y hy
      cases i with
      | zero => simp at hy; subst hy; exact ⟨h1, h2, h3⟩
      | succ j => rw [prev_cons]; exact h4 j y (by simpa using hy)
    · intro h
      obtain ⟨h1, h2, h3⟩ := h 0 r rfl
      exact ⟨⟨⟨h1, h2⟩, h3⟩, fun i y hy => by have := h (i + 1) y (by simpa using hy); rwa [prev_cons] at this⟩
theorem set_no {α : Type} {t l : Tb α} (h : (∃ (i : Nat) (r : Ro α), l[i]? = some r ∧ ¬ okRo (prev 0 l i) r) ∨ 8 < l.length) : setT t l = (t, false) := by
  unfold setT
  rw [if_neg]
  rintro ⟨h1, h2⟩
  rcases h with ⟨i, r, hr, hn⟩ | h
  · exact hn ((right_iff l 0).1 h2 i r hr)
  · omega
theorem set_yes {α : Type} {t l : Tb α} (h : ∀ (i : Nat) (r : Ro α), l[i]? = some r → okRo (prev 0 l i) r) (h8 : l.length ≤ 8) : setT t l = (l, true) := by
  unfold setT
  rw [if_pos ⟨h8, (right_iff l 0).2 h⟩]

set_option maxHeartbeats 8000000 in
set_option maxRecDepth 100000 in
theorem refSet_any (B b : Nat) (v vl : Value) (t l : Tb ByteArray) (w : World) (hT : TabR B b v t w) (hB : B ≤ w.heap.size) (hl : RsS w vl l) (hll : l.length ≤ 1099511627776) :
    Calls Try.prog 16 #[.pointer (some ⟨b, 0, none⟩), vl] w fun e w' =>
      e = .returned (.bool (setT t l).2) ∧ After eS 29 42 B b v (setT t l).1 w w' := by
  have hblt := hT.lt
  have hlw : ∀ W, Below w.heap.size w W → RsS W vl l := fun W hW => hl.kept hW
  have hlen : ∀ (i : Nat) (r : Ro ByteArray), l[i]? = some r → i < l.length := fun i r h => (List.getElem?_eq_some_iff.1 h).1
  have hno : ((∃ (i : Nat) (r : Ro ByteArray), l[i]? = some r ∧ ¬ okRo (prev 0 l i) r) ∨ 8 < l.length) → ∀ w', Below w.heap.size w w' → Ending.returned (.bool false) = .returned (.bool (setT t l).2) ∧ After eS 29 42 B b v (setT t l).1 w w' := fun h w' hw => by
    rw [set_no h]
    exact ⟨rfl, After.same hT hw⟩
  have hyes : (∀ (i : Nat) (r : Ro ByteArray), l[i]? = some r → okRo (prev 0 l i) r) → l.length ≤ 8 → ∀ (v' : Value) (w' : World), Below w.heap.size w w' → RsOwn eS 42 w.heap.size v' l w' →
      Ending.returned (.bool true) = .returned (.bool (setT t l).2) ∧ After eS 29 42 B b v (setT t l).1 w (w'.setCell ⟨b, 0, none⟩ v') := fun h1 h2 v' w' hw hn => by
    rw [set_yes h1 h2]
    exact ⟨rfl, After.laid hT hw hn hB⟩
  generalize setT t l = R at hno hyes ⊢
  have hbl := hT.blk
  obtain ⟨A, g, off, c, rfl, h1, h2, h3, h4⟩ := hl
  obtain ⟨n, hn⟩ : ∃ n, l.length = n := ⟨_, rfl⟩
  rw [hn] at h1 h3 hll hlw hno hyes ⊢
  have hn' := Lib.hid hn
  have hno' := Lib.hid hno
  have hyes' := Lib.hid hyes
  have h3' := Lib.hid h3
  have h4' := Lib.hid h4
  have hbl' := Lib.hid hbl
  have hlw' := Lib.hid hlw
  have hB' := Lib.hid hB
  unfold maxLen at h2
  clear hno hyes hn h3 h4 hbl hT hlw hlen hB
  go_enter Try.func16, Try.ntmps16
  go_wp2
  go_loopw [9] (fun s9 wr => ∃ (i : Nat), s9 = .int .i64 (i : Int) ∧ i ≤ n ∧ Below w.heap.size w wr ∧ (∀ (j : Nat) (r : Ro ByteArray), j < i → l[j]? = some r → okRo (prev 0 l j) r) ∧ 0 ≤ prev 0 l i) (fun s9 wr => n - (RowKit.intOf s9).toNat)
  case atStart => exact ⟨0, rfl, Nat.zero_le _, Below.refl _ _, fun j r hj => absurd hj (by omega), Int.le_refl _⟩
  case round =>
    obtain ⟨i, rfl, hi, hbw, hall, hp0⟩ := hrel
    have hall' := Lib.hid hall
    clear hall
    by_cases hlt : i < n
    · obtain ⟨r, hr⟩ : ∃ r, l[i]? = some r := ⟨_, List.getElem?_eq_getElem (by rw [hn'.out]; exact hlt)⟩
      obtain ⟨rfl, hg⟩ := h3'.out (by omega)
      have hC : ∀ (W : World), Below w.heap.size w W → ∀ (j : Nat) (y : Ro ByteArray), l[j]? = some y → RoCells eS W g (off + j * 4) y := fun W hW j y hy => (h4'.out j y hy).kept eS hg hW
      obtain ⟨hc, hc1, hc2, hc3⟩ := hC wr hbw i r hr
      have hr' := Lib.hid hr
      obtain ⟨rid, rl, ru, rx⟩ := r
      have hal : Below w.heap.size w (wr.alloc (.cells #[.int .i64 rid, .int .i64 rl, .int .i64 ru, .string rx] 42)) := hbw.alloc hbw.size _
      have hal' := Lib.hid hal
      have hbad : ¬ okRo (prev 0 l i) (⟨rid, rl, ru, rx⟩ : Ro ByteArray) → _ := fun h => hno'.out (.inl ⟨i, _, hr'.out, h⟩)
      have hgood : okRo (prev 0 l i) (⟨rid, rl, ru, rx⟩ : Ro ByteArray) → (∀ (j : Nat) (r : Ro ByteArray), j < i + 1 → l[j]? = some r → okRo (prev 0 l j) r) ∧ 0 ≤ prev 0 l (i + 1) := fun h => by
        refine ⟨fun j y hj hy => ?_, ?_⟩
        · by_cases e : j = i
          · subst e; rw [hr'.out] at hy; cases hy; exact h
          · exact hall'.out j y (by omega) hy
        · rw [prev_some hr'.out]
          have := h.1
          show 0 ≤ rid
          have : prev 0 l i < rid := h.1
          omega
      unfold okRo at hbad hgood
      simp only at hc hc1 hc2 hc3 hbad hgood
      -- what stands ahead of it
      have hpv : (i = 0 ∧ prev 0 l i = 0) ∨ ∃ (j : Nat) (q : Ro ByteArray), i = j + 1 ∧ l[j]? = some q ∧ prev 0 l i = q.id := by
        rcases Nat.eq_zero_or_pos i with h | h
        · exact .inl ⟨h, by rw [h]; rfl⟩
        · obtain ⟨j, rfl⟩ : ∃ j, i = j + 1 := ⟨i - 1, by omega⟩
          obtain ⟨q, hq⟩ : ∃ q, l[j]? = some q := ⟨_, List.getElem?_eq_getElem (by rw [hn'.out]; omega)⟩
          exact .inr ⟨j, q, rfl, hq, prev_some hq⟩
      obtain ⟨P, hP⟩ : ∃ P, prev 0 l i = P := ⟨_, rfl⟩
      rw [hP] at hbad hgood hpv hp0
      have hbad' := Lib.hid hbad
      have hgood' := Lib.hid hgood
      have hC' := Lib.hid (fun j y => hC _ hal j y)
      clear hr hbad hgood hal hC hP hall'
      by_cases e1 : rid < 1
      · have hR := Lib.hid (hbad'.out (fun h => by omega))
        have d1 : decide (rid < 1) = true := by simpa using e1
        clear hpv
        go_wp2
        go_quiet (fail)
        go_wp2
        go_ret
        exact hR.out _ (below_drewN _ hal'.out)
      · have d1 : decide (rid < 1) = false := by simpa using e1
        rcases hpv with ⟨hi0, rfl⟩ | ⟨j, q, hij, hq, rfl⟩
        · have d2 : decide (0 < i) = false := by simp; omega
          clear hi0
          by_cases e3 : rl < 0
          · have hR := Lib.hid (hbad'.out (fun h => by omega))
            have d3 : decide (rl < 0) = true := by simpa using e3
            go_wp2
            go_quiet (fail)
            go_wp2
            go_ret
            exact hR.out _ (below_drewN _ hal'.out)
          · have d3 : decide (rl < 0) = false := by simpa using e3
            by_cases e4 : ru < rid
            · have hR := Lib.hid (hbad'.out (fun h => by omega))
              have d4 : decide (ru < rid) = true := by simpa using e4
              go_wp2
              go_quiet (fail)
              go_wp2
              go_ret
              exact hR.out _ (below_drewN _ hal'.out)
            · have d4 : decide (ru < rid) = false := by simpa using e4
              have hG := Lib.hid (hgood'.out ⟨by omega, by omega, by omega⟩)
              go_wp2
              go_quiet (fail)
              go_wp2
              go_roundw
              case rel => exact ⟨i + 1, by go_num, by omega, below_drewN _ hal'.out, hG.out.1, hG.out.2⟩
              case measure => simp [RowKit.intOf]; omega
        · have d2 : decide (0 < i) = true := by simp; omega
          have hI : (i : Int) - 1 = (j : Int) := by omega
          have hjn : j < n := by omega
          obtain ⟨hq0, _, _, _⟩ := hC'.out j q hq
          obtain ⟨qid, ql, qu, qx⟩ := q
          simp only at hq0 hbad' hgood' hp0
          clear hq hij
          by_cases e2 : rid ≤ qid
          · have hR := Lib.hid (hbad'.out (fun h => by omega))
            have d5 : decide (rid ≤ qid) = true := by simpa using e2
            go_wp2
            go_quiet (fail)
            go_wp2
            go_ret
            exact hR.out _ (below_drewN _ hal'.out)
          · have d5 : decide (rid ≤ qid) = false := by simpa using e2
            by_cases e3 : rl < 0
            · have hR := Lib.hid (hbad'.out (fun h => by omega))
              have d3 : decide (rl < 0) = true := by simpa using e3
              go_wp2
              go_quiet (fail)
              go_wp2
              go_ret
              exact hR.out _ (below_drewN _ hal'.out)
            · have d3 : decide (rl < 0) = false := by simpa using e3
              by_cases e4 : ru < rid
              · have hR := Lib.hid (hbad'.out (fun h => by omega))
                have d4 : decide (ru < rid) = true := by simpa using e4
                go_wp2
                go_quiet (fail)
                go_wp2
                go_ret
                exact hR.out _ (below_drewN _ hal'.out)
              · have d4 : decide (ru < rid) = false := by simpa using e4
                have hG := Lib.hid (hgood'.out ⟨by omega, by omega, by omega⟩)
                go_wp2
                go_quiet (fail)
                go_wp2
                go_roundw
                case rel => exact ⟨i + 1, by go_num, by omega, below_drewN _ hal'.out, hG.out.1, hG.out.2⟩
                case measure => simp [RowKit.intOf]; omega
    · obtain rfl : i = n := by omega
      by_cases h8 : i ≤ 8
      · have hfin := Lib.hid (hyes'.out (fun j y hy => hall'.out j y (by have := (List.getElem?_eq_some_iff.1 hy).1; rw [hn'.out] at this; exact this) hy) h8)
        have hlw2 := Lib.hid (hlw'.out wr hbw)
        have hbw' := Lib.hid hbw
        clear hbw hall' hno' hyes'
        have hbA : Below w.heap.size w (wr.alloc (.cells #[] 42)) := hbw'.out.alloc hbw'.out.size _
        have hlA := Lib.hid (hlw'.out _ hbA)
        have hbA' := Lib.hid hbA
        clear hbA
        go_wp2_with (at_builtin; refine append_all_rs rfl _ _ rfl w.heap.size _ _ l rfl rfl ?c1 hlA.out ?c2 hbA'.out.size ?_)
        case c1 => exact lit_nil _ hbw'.out.size
        case c2 => rw [hn'.out]; exact hll
        intro v' w3 hown3 hg3
        have hbw3 : Below w.heap.size w w3 := hbA'.out.grown hg3 hbA'.out.size (fun k hk => by
          have e : k = wr.heap.size := by simpa [Value.ownBlock] using hk.symm
          have := hbw'.out.size
          omega)
        have hfin2 := Lib.hid (hfin.out v' w3 hbw3 hown3)
        have hb3 := (hbw3.block b hblt).trans hbl'.out
        have d1 : w3.cell? ⟨b, 0, none⟩ = some v := by rw [Lib.cell_of_heap hb3]; rfl
        have f1 : w3.frozen? ⟨b, 0, none⟩ = false := Lib.frozen_of_heap hb3 0
        have hform := ownsRow_form hown3
        rw [hn'.out] at hform
        obtain ⟨ao, c3, rfl⟩ := hform
        clear hg3 hown3 hbw3 hb3
        go_wp2
        go_ret
        exact hfin2.out
      · have hR := Lib.hid (hno'.out (.inr (by omega)) wr hbw)
        go_wp2
        go_ret
        exact hR.out
end Go.Proofs.Ytnmcgmfpalgpnaa.Se
