/-
  WALKS OF THE REFERENCE's Right, Print, Parse.
-/
import Derived.Test.YtljacnedlgnldaaDoorTokSpec
import Derived.Deep.RegionHeld3
import Derived.Laws.ResultCell
import Derived.Laws.Rows
set_option linter.unusedVariables false
namespace Go.Proofs.YtljacnedlgnldaaDoor.To
open Go.Lib Go.RowKit

def rightI (b a : Int) : Bool := decide (0 < b) && (decide (b ≤ a) && decide (a ≤ 4611686018427387904))
theorem rightI_is (b a : Int) : rightI b a = decide (1 ≤ b ∧ b ≤ a ∧ a ≤ (most : Int)) := by
  unfold rightI most
  rw [Bool.eq_iff_iff]
  simp only [Bool.and_eq_true, decide_eq_true_iff]
  omega
set_option maxHeartbeats 2000000 in
set_option maxRecDepth 100000 in
theorem refRight_any (b a : Int) (w : World) : Calls Tryd.prog 15 #[tokV b a] w fun e w' => e = .returned (.bool (rightI b a)) ∧ Below w.heap.size w w' := by
  have hB : Below w.heap.size w (w.alloc (.cells #[.int .i64 b, .int .i64 a] 23)) := (Below.refl _ _).alloc (Nat.le_refl _) _
  unfold rightI
  by_cases h1 : 0 < b
  · by_cases h2 : b ≤ a
    · by_cases h3 : a ≤ 4611686018427387904
      · rw [decide_eq_true h1, decide_eq_true h2, decide_eq_true h3]
        go_enter Tryd.func15, Tryd.ntmps15
        go_wp2
        go_ret
        exact ⟨rfl, hB⟩
      · rw [decide_eq_true h1, decide_eq_true h2, decide_eq_false h3]
        go_enter Tryd.func15, Tryd.ntmps15
        go_wp2
        go_ret
        exact ⟨rfl, hB⟩
    · rw [decide_eq_true h1, decide_eq_false h2]
      go_enter Tryd.func15, Tryd.ntmps15
      go_wp2
      go_ret
      exact ⟨rfl, hB⟩
  · rw [decide_eq_false h1]
    go_enter Tryd.func15, Tryd.ntmps15
    go_wp2
    go_ret
    exact ⟨rfl, hB⟩

/-! ### Print -/
theorem join_txt (b a : Nat) : (⟨#[117, 114, 110, 58, 99, 97, 108, 101, 112, 105, 110, 58]⟩ : ByteArray) ++ ⟨(decDigits b).toArray⟩ ++ ⟨#[46]⟩ ++ ⟨(decDigits a).toArray⟩ = ⟨(txtT b a).toArray⟩ := by
  apply ByteArray.ext
  simp only [ByteArray.data_append]
  simp [txtT, pre]
theorem dec_len {n : Nat} (h : n ≤ most) : (decDigits n).length ≤ 20 := by
  rw [decDigits_length]
  rcases Nat.eq_zero_or_pos n with h0 | h0
  · rw [nDigits_small (by omega)]; omega
  · have := Lib.numDigits_eq n h0 (by unfold most at h; omega); split at this <;> omega
set_option maxHeartbeats 8000000 in
set_option maxRecDepth 100000 in
theorem refPrint_any (b a : Int) (w : World) : Calls Tryd.prog 9 #[tokV b a] w fun e w' => e = .returned (sv (prT b a)) ∧ Below w.heap.size w w' := by
  have cR := refRight_any b a
  by_cases hr : 1 ≤ b ∧ b ≤ a ∧ a ≤ (most : Int)
  rotate_left
  · have e1 : prT b a = [] := by unfold prT; rw [if_neg hr]
    have e2 : rightI b a = false := by rw [rightI_is, decide_eq_false hr]
    rw [e1]
    rw [e2] at cR
    clear hr e1 e2
    go_enter Tryd.func9, Tryd.ntmps9
    go_wp2_with fail
    go_at_call 15
    refine (cR _).mono ?_
    rintro e w1 ⟨rfl, hb⟩
    go_wp2
    go_ret
    exact ⟨rfl, below_box hb⟩
  have e1 : prT b a = txtT b.toNat a.toNat := by unfold prT; rw [if_pos hr]
  have e2 : rightI b a = true := by rw [rightI_is, decide_eq_true hr]
  rw [e1]
  rw [e2] at cR
  obtain ⟨n, rfl⟩ : ∃ n : Nat, b = (n : Int) := ⟨b.toNat, by omega⟩
  obtain ⟨m, rfl⟩ : ∃ m : Nat, a = (m : Int) := ⟨a.toNat, by omega⟩
  rw [Int.toNat_natCast, Int.toNat_natCast]
  unfold most at hr
  have cA := Lib.hid (Ch.refDecimal_any n (by omega))
  have cB := Lib.hid (Ch.refDecimal_any m (by omega))
  have l1 := dec_len (n := n) (by unfold most; omega)
  have l2 := dec_len (n := m) (by unfold most; omega)
  have hj := Lib.hid (join_txt n m)
  have w1 : IntKind.u64.wrap (n : Int) = (n : Int) := IntWalk.u64_in _ (by omega)
  have w2 : IntKind.u64.wrap (m : Int) = (m : Int) := IntWalk.u64_in _ (by omega)
  have s1 : (⟨(decDigits n).toArray⟩ : ByteArray).size ≤ 20 := by rw [Lib.size_eq]; simpa using l1
  have s2 : (⟨(decDigits m).toArray⟩ : ByteArray).size ≤ 20 := by rw [Lib.size_eq]; simpa using l2
  generalize (⟨(decDigits n).toArray⟩ : ByteArray) = x at cA hj s1
  generalize (⟨(decDigits m).toArray⟩ : ByteArray) = y at cB hj s2
  have z1 : (⟨#[117, 114, 110, 58, 99, 97, 108, 101, 112, 105, 110, 58]⟩ : ByteArray).size = 12 := rfl
  have z2 : (⟨#[46]⟩ : ByteArray).size = 1 := rfl
  obtain ⟨p1, hp1⟩ : ∃ p, (⟨#[117, 114, 110, 58, 99, 97, 108, 101, 112, 105, 110, 58]⟩ : ByteArray) ++ x = p := ⟨_, rfl⟩
  obtain ⟨p2, hp2⟩ : ∃ p, p1 ++ (⟨#[46]⟩ : ByteArray) = p := ⟨_, rfl⟩
  obtain ⟨p3, hp3⟩ : ∃ p, p2 ++ y = p := ⟨_, rfl⟩
  have q1 : p1.size = 12 + x.size := by rw [← hp1, ByteArray.size_append]; omega
  have q2 : p2.size = p1.size + 1 := by rw [← hp2, ByteArray.size_append]; omega
  have f1 : ¬ 9223372036854775807 < (⟨#[117, 114, 110, 58, 99, 97, 108, 101, 112, 105, 110, 58]⟩ : ByteArray).size + x.size := by omega
  have f1' : ¬ 9223372036854775807 < 12 + x.size := by omega
  have f2 : ¬ 9223372036854775807 < p1.size + (⟨#[46]⟩ : ByteArray).size := by omega
  have f2' : ¬ 9223372036854775807 < p1.size + 1 := by omega
  have f3 : ¬ 9223372036854775807 < p2.size + y.size := by omega
  rw [hp1, hp2, hp3] at hj
  clear hr e1 e2 l1 l2 s1 s2 z1 z2 q1 q2
  go_enter Tryd.func9, Tryd.ntmps9
  go_wp2_with fail
  go_at_call 15
  refine (cR _).mono ?_
  rintro e wb ⟨rfl, hb⟩
  have hB := Lib.hid (below_box hb)
  obtain ⟨x0, x1⟩ := box_two hb
  have hlt : w.heap.size < wb.heap.size := World.block_lt_of_cell? _ _ x0
  have hSS := Lib.hid (fun (W : World) (h : Below wb.heap.size wb W) => (⟨h, (h.cell (p := ⟨w.heap.size, 0, none⟩) hlt).trans x0, (h.cell (p := ⟨w.heap.size, 1, none⟩) hlt).trans x1⟩ : Below wb.heap.size wb W ∧ W.cell? ⟨w.heap.size, 0, none⟩ = some (.int .i64 (n : Int)) ∧ W.cell? ⟨w.heap.size, 1, none⟩ = some (.int .i64 (m : Int))))
  clear hb cR hlt
  go_wp2_with fail
  go_region_held3 (fun W => Below wb.heap.size wb W ∧ W.cell? ⟨w.heap.size, 0, none⟩ = some (.int .i64 (n : Int)) ∧ W.cell? ⟨w.heap.size, 1, none⟩ = some (.int .i64 (m : Int)))
    (refine hSS.out _ ?_ <;> first | exact Below.drew (Below.refl _ _) | exact below_then (And.left (by assumption)) (by assumption) | exact below_then (Below.drew (Below.refl _ _)) (by assumption) | assumption)
    (first | (go_at_call 16; (first | ((with_reducible refine (cA.out _).mono ?_); rintro e wx ⟨rfl, hbx⟩) | ((with_reducible refine (cB.out _).mono ?_); rintro e wy ⟨rfl, hby⟩))))
  all_goals
    go_wp2
    go_ret
    exact ⟨by rw [hj.out]; rfl, below_then hB.out (by first | exact And.left (by assumption) | exact below_then (And.left (by assumption)) (by assumption) | assumption)⟩

/-! ### Parse -/
/-- a box of two, stored into -/
theorem stored_two {W : World} {g : Nat} {u0 u1 v0 v1 : Value} {t : TypeId} {fr : Nat × Nat} (h : W.heap[g]? = some (.cells #[u0, u1] t fr)) :
    ((W.setCell ⟨g, 0, none⟩ v0).setCell ⟨g, 1, none⟩ v1).heap[g]? = some (.cells #[v0, v1] t fr) := by
  obtain ⟨hlt, hk⟩ := Array.getElem?_eq_some_iff.1 h
  have e1 : (W.setCell ⟨g, 0, none⟩ v0).heap[g]? = some (.cells #[v0, u1] t fr) := by
    show (W.heap.modify g _)[g]? = _
    rw [Array.getElem?_eq_getElem (by rw [Array.size_modify]; exact hlt), Array.getElem_modify_self, hk]
    rfl
  obtain ⟨hlt2, hk2⟩ := Array.getElem?_eq_some_iff.1 e1
  show ((W.setCell ⟨g, 0, none⟩ v0).heap.modify g _)[g]? = _
  rw [Array.getElem?_eq_getElem (by rw [Array.size_modify]; exact hlt2), Array.getElem_modify_self, hk2]
  rfl
end Go.Proofs.YtljacnedlgnldaaDoor.To
