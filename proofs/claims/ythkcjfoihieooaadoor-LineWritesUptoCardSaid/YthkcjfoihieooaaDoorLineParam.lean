/-
  WALKS OF line.cutParam, cutParams.
-/
import Derived.Test.YthkcjfoihieooaaDoorLineVals
set_option linter.unusedVariables false
namespace Go.Proofs.YthkcjfoihieooaaDoor.Li
open Go.Lib Go.RowKit Bu

theorem Own.form {B : Nat} {v : Value} {ls : List Row} {w : World} (h : Own B v ls w) : ∃ ao c, v = .slice ao ls.length c := by
  rcases h.2 with ⟨h1, h2⟩ | ⟨g, cap, cur, h1, _⟩
  · exact ⟨none, 0, by rw [h1, h2]⟩
  · exact ⟨_, _, h1⟩
def CutParamP (B : Nat) (t : Row) (e : Ending) (w' : World) : Prop :=
  (∃ n : Nat, (∀ s g m acc, s.head? = some 59 → s.tail = t → fin g m acc s = .bad n) ∧ n ≠ 0 ∧ n < 100 ∧ e = .returned (.tuple #[.agg #[.string ⟨#[]⟩, .slice none 0 0], .string ⟨#[]⟩, .int .i64 (n : Int)])) ∨
  ∃ (n r : ByteArray) (v : Value) (vs : List Row), (∀ s g m acc, s.head? = some 59 → s.tail = t → fin g m acc s = fin g m (acc ++ [⟨n.data.toList, vs⟩]) r.data.toList) ∧ r.size < t.length ∧
    e = .returned (.tuple #[.agg #[.string n, v], .string r, .int .i64 0]) ∧ Own B v vs w'

set_option maxHeartbeats 4000000 in
set_option maxRecDepth 100000 in
theorem cutParam_any (s : ByteArray) (w : World) (hs : s.size ≤ 1099511627776) :
    Calls Tryd.prog 45 #[.string s] w fun e w' => CutParamP w.heap.size s.data.toList e w' ∧ Below w.heap.size w w' := by
  have hsz := Lib.hid (Lib.size_eq s)
  go_enter Tryd.func45, Tryd.ntmps45
  go_wp2_with fail
  go_at_call 30
  refine (cutName_any s _ (by omega)).mono ?_
  rintro e w1 ⟨hc, hb0⟩
  have hz1 : w.heap.size < w1.heap.size := by have := hb0.size; simp at this; omega
  have hk1 : w1.heap[w.heap.size]? = some (.cells #[.string ⟨#[]⟩, .slice none 0 0] 40 (0, 0)) := by
    rw [hb0.block w.heap.size (by simp)]
    exact heap_alloc_new w _
  have hb1 : Below w.heap.size w w1 := ((Below.refl _ _).alloc (Nat.le_refl _) _).trans (hb0.mono (by simp))
  clear hb0
  have hk1' := Lib.hid hk1
  have c0 : w1.cell? ⟨w.heap.size, 0, none⟩ = some (.string ⟨#[]⟩) := by rw [Lib.cell_of_heap hk1]; rfl
  have c1 : w1.cell? ⟨w.heap.size, 1, none⟩ = some (.slice none 0 0) := by rw [Lib.cell_of_heap hk1]; rfl
  have f0 : w1.frozen? ⟨w.heap.size, 0, none⟩ = false := Lib.frozen_of_heap hk1 0
  have f1 : w1.frozen? ⟨w.heap.size, 1, none⟩ = false := Lib.frozen_of_heap hk1 1
  clear hk1
  rcases hc with ⟨h1, rfl⟩ | ⟨n, r, h1, rfl⟩
  · have hfin : ∀ W, CutParamP w.heap.size s.data.toList (.returned (.tuple #[.agg #[.string ⟨#[]⟩, .slice none 0 0], .string ⟨#[]⟩, .int .i64 30])) W := fun W => .inl ⟨30, fun t g m acc h59 ht => fin_bad1 h59 (by rw [ht]; exact h1), by decide, by decide, rfl⟩
    have hfin' := Lib.hid hfin
    clear hfin h1
    go_wp2
    exact bodyPost_ret (v := .tuple #[.agg #[.string ⟨#[]⟩, .slice none 0 0], .string ⟨#[]⟩, .int .i64 30]) (by simp [results, Tryd.results45, go_sem, c0, c1]) rfl ⟨hfin'.out _, (hb1.setCell (p := ⟨w.heap.size, 0, none⟩) (Nat.le_refl _) _).setCell (p := ⟨w.heap.size, 1, none⟩) (Nat.le_refl _) _⟩
  · have hnr := nameC_len h1
    rw [← Lib.size_eq] at hnr
    have hn1 : 1 ≤ n.size := by
      have := (nameC_some h1).2
      unfold nameB at this
      simp only [Bool.and_eq_true, decide_eq_true_eq] at this
      rw [Lib.size_eq]; omega
    have hC := cutPre_any r 61 w1
    have h1' := Lib.hid h1
    clear h1
    go_wp2_with fail
    go_at_call 24
    refine hC.mono ?_
    rintro e w' ⟨hc, rfl⟩
    clear hC
    rcases hc with ⟨h5, rfl⟩ | ⟨h5, q, hq, rfl⟩
    · have hfin : ∀ W, CutParamP w.heap.size s.data.toList (.returned (.tuple #[.agg #[.string ⟨#[]⟩, .slice none 0 0], .string ⟨#[]⟩, .int .i64 31])) W := fun W => .inl ⟨31, fun t g m acc h59 ht => fin_bad2 h59 (by rw [ht]; exact h1'.out) h5, by decide, by decide, rfl⟩
      have hfin' := Lib.hid hfin
      clear hfin h5
      go_wp2
      exact bodyPost_ret (v := .tuple #[.agg #[.string ⟨#[]⟩, .slice none 0 0], .string ⟨#[]⟩, .int .i64 31]) (by simp [results, Tryd.results45, go_sem, c0, c1]) rfl ⟨hfin'.out _, (hb1.setCell (p := ⟨w.heap.size, 0, none⟩) (Nat.le_refl _) _).setCell (p := ⟨w.heap.size, 1, none⟩) (Nat.le_refl _) _⟩
    · have hqs : q.size < r.size := by rw [Lib.size_eq, Lib.size_eq, hq]; exact tail_lt h5
      have hV := cutValues_any q w1 (by omega)
      have h5' := Lib.hid h5
      have hq' := Lib.hid hq
      clear h5 hq c0 c1 f0 f1
      go_wp2_with fail
      go_at_call 62
      refine hV.mono ?_
      rintro e w2 ⟨hc, hb2⟩
      clear hV
      have hk2 : w2.heap[w.heap.size]? = some (.cells #[.string ⟨#[]⟩, .slice none 0 0] 40 (0, 0)) := by
        rw [hb2.block w.heap.size hz1]
        exact hk1'.out
      have hz2 : w.heap.size < w2.heap.size := Nat.lt_of_lt_of_le hz1 hb2.size
      have hB := below_then hb1 hb2
      have c0 : w2.cell? ⟨w.heap.size, 0, none⟩ = some (.string ⟨#[]⟩) := by rw [Lib.cell_of_heap hk2]; rfl
      have c1 : w2.cell? ⟨w.heap.size, 1, none⟩ = some (.slice none 0 0) := by rw [Lib.cell_of_heap hk2]; rfl
      have f0 : w2.frozen? ⟨w.heap.size, 0, none⟩ = false := Lib.frozen_of_heap hk2 0
      have f1 : w2.frozen? ⟨w.heap.size, 1, none⟩ = false := Lib.frozen_of_heap hk2 1
      clear hk2
      rcases hc with ⟨h6, rfl⟩ | ⟨v, out, r2, h6, rfl, hown⟩
      · have hfin : ∀ W, CutParamP w.heap.size s.data.toList (.returned (.tuple #[.agg #[.string ⟨#[]⟩, .slice none 0 0], .string ⟨#[]⟩, .int .i64 31])) W := fun W => .inl ⟨31, fun t g m acc h59 ht => fin_bad3 h59 (by rw [ht]; exact h1'.out) h5'.out (by rw [← hq'.out]; exact h6), by decide, by decide, rfl⟩
        have hfin' := Lib.hid hfin
        clear hfin h6
        go_wp2
        exact bodyPost_ret (v := .tuple #[.agg #[.string ⟨#[]⟩, .slice none 0 0], .string ⟨#[]⟩, .int .i64 31]) (by simp [results, Tryd.results45, go_sem, c0, c1]) rfl ⟨hfin'.out _, (hB.setCell (p := ⟨w.heap.size, 0, none⟩) (Nat.le_refl _) _).setCell (p := ⟨w.heap.size, 1, none⟩) (Nat.le_refl _) _⟩
      · have hr2 : r2.size < s.data.toList.length := by
          have := (vals_len _ (Nat.le_refl _) h6).1
          have h7 := List.length_pos_iff.2 (vals_len _ (Nat.le_refl _) h6).2
          rw [Lib.size_eq r2]
          have h8 := hsz.out
          have h9 := Lib.size_eq q
          omega
        have hown2 : ∀ x y, Own w.heap.size v out ((w2.setCell ⟨w.heap.size, 0, none⟩ x).setCell ⟨w.heap.size, 1, none⟩ y) := fun x y => by
          have h := ownsRow_setCell_below (ownsRow_setCell_below hown (a := ⟨w.heap.size, 0, none⟩) hz1 x) (a := ⟨w.heap.size, 1, none⟩) hz1 y
          exact Own.less h (by omega)
        have hfin : ∀ W, Own w.heap.size v out W → CutParamP w.heap.size s.data.toList (.returned (.tuple #[.agg #[.string n, v], .string r2, .int .i64 0])) W := fun W hW => .inr ⟨n, r2, v, out, fun t g m acc h59 ht => fin_more h59 (by rw [ht]; exact h1'.out) h5'.out (by rw [← hq'.out]; exact h6), hr2, rfl, hW⟩
        obtain ⟨ao, c, rfl⟩ := hown.form
        have hfin' := Lib.hid hfin
        have hown2' := Lib.hid hown2
        obtain ⟨l, hl⟩ : ∃ l, out.length = l := ⟨_, rfl⟩
        rw [hl] at hfin' hown2' ⊢
        clear hfin h6 hown hown2 hl
        go_wp2
        exact bodyPost_ret (v := .tuple #[.agg #[.string n, .slice ao l c], .string r2, .int .i64 0]) (by simp [results, Tryd.results45, go_sem, c0, c1]) rfl ⟨hfin'.out _ (hown2'.out _ _), (hB.setCell (p := ⟨w.heap.size, 0, none⟩) (Nat.le_refl _) _).setCell (p := ⟨w.heap.size, 1, none⟩) (Nat.le_refl _) _⟩
end Go.Proofs.YthkcjfoihieooaaDoor.Li
