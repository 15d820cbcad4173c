/-
  WALKS OF THE PROGRAM's LAYER http: isMethod, isTarget, isLength, isCoding, isField; strings.Trim at a blank and a tab.
-/
import Derived.Test.YtiaollhiggeolaaDoorHttpCodeA
import Derived.Deep.RegionHeld3
set_option linter.unusedVariables false
namespace Go.Proofs.YtiaollhiggeolaaDoor.Ht
open Go.Lib Go.RowKit Go.Shelf

theorem isE_yes (s : ByteArray) (h : s.size = 0) : s.toList.isEmpty = true := by
  have : s.data.toList = [] := List.eq_nil_of_length_eq_zero (by rw [← Lib.size_eq]; exact h)
  rw [Lib.toList_data, this]; rfl
theorem isE_no (s : ByteArray) (h : ¬ s.size = 0) : s.toList.isEmpty = false := by
  rw [Lib.toList_data]
  cases hd : s.data.toList with
  | nil => exact absurd (by rw [Lib.size_eq, hd]; rfl) h
  | cons x r => rfl
def mB (m : Row) : Bool := decide (0 < m.length ∧ m.length < 17) && rng 65 90 false m
def tB (t : Row) : Bool := decide (0 < t.length ∧ t.length < 257) && rng 33 126 false t
theorem asked_is (m t : Row) : asked m t = (mB m && tB t) := rfl
set_option maxHeartbeats 2000000 in
set_option maxRecDepth 100000 in
theorem isMethod_any (s : ByteArray) (w : World) (hs : s.size ≤ 9223372036854775807) : Calls Tryd.prog 21 #[.string s] w fun e w' => e = .returned (.bool (mB s.data.toList)) ∧ w' = w := by
  have cm := made_any 35 (rgB 65 90 false) (enters_of Tryd.func35 (by kernel_rfl) rfl) (fun b W => isGreat_any b W) s w hs
  unfold mB
  rw [rng_all, ← Lib.size_eq]
  generalize s.data.toList.all (rgB 65 90 false) = R at cm ⊢
  by_cases h0 : s.size = 0
  · have hE := isE_yes s h0
    rw [decide_eq_false (by omega), Bool.false_and]
    clear h0
    go_enter Tryd.func21, Tryd.ntmps21
    go_wp2
    go_ret
    exact ⟨rfl, rfl⟩
  · have hE := isE_no s h0
    by_cases h1 : s.size < 17
    · rw [decide_eq_true (by omega), Bool.true_and]
      have h2 : (s.size : Int) ≤ 16 := by omega
      go_enter Tryd.func21, Tryd.ntmps21
      go_wp2_with fail
      go_at_call 34
      with_reducible refine cm.mono ?_
      rintro e w3 ⟨rfl, rfl⟩
      go_wp2
      go_ret
      exact ⟨rfl, rfl⟩
    · rw [decide_eq_false (by omega), Bool.false_and]
      have h2 : ¬ (s.size : Int) ≤ 16 := by omega
      go_enter Tryd.func21, Tryd.ntmps21
      go_wp2
      go_ret
      exact ⟨rfl, rfl⟩
set_option maxHeartbeats 2000000 in
set_option maxRecDepth 100000 in
theorem isTarget_any (s : ByteArray) (w : World) (hs : s.size ≤ 9223372036854775807) : Calls Tryd.prog 22 #[.string s] w fun e w' => e = .returned (.bool (tB s.data.toList)) ∧ w' = w := by
  have cm := made_any 36 (rgB 33 126 false) (enters_of Tryd.func36 (by kernel_rfl) rfl) (fun b W => isSeen_any b W) s w hs
  unfold tB
  rw [rng_all, ← Lib.size_eq]
  generalize s.data.toList.all (rgB 33 126 false) = R at cm ⊢
  by_cases h0 : s.size = 0
  · have hE := isE_yes s h0
    rw [decide_eq_false (by omega), Bool.false_and]
    clear h0
    go_enter Tryd.func22, Tryd.ntmps22
    go_wp2
    go_ret
    exact ⟨rfl, rfl⟩
  · have hE := isE_no s h0
    by_cases h1 : s.size < 257
    · rw [decide_eq_true (by omega), Bool.true_and]
      have h2 : (s.size : Int) ≤ 256 := by omega
      go_enter Tryd.func22, Tryd.ntmps22
      go_wp2_with fail
      go_at_call 34
      with_reducible refine cm.mono ?_
      rintro e w3 ⟨rfl, rfl⟩
      go_wp2
      go_ret
      exact ⟨rfl, rfl⟩
    · rw [decide_eq_false (by omega), Bool.false_and]
      have h2 : ¬ (s.size : Int) ≤ 256 := by omega
      go_enter Tryd.func22, Tryd.ntmps22
      go_wp2
      go_ret
      exact ⟨rfl, rfl⟩

/-! ### fields -/
theorem box_cells (w : World) (n v : ByteArray) : (w.alloc (.cells #[.string n, .string v] 47)).cell? ⟨w.heap.size, 0, none⟩ = some (.string n) ∧ (w.alloc (.cells #[.string n, .string v] 47)).cell? ⟨w.heap.size, 1, none⟩ = some (.string v) := by
  constructor <;> (rw [World.cell?_alloc_new]; rfl)
theorem low_cl : Ch.low [67, 111, 110, 116, 101, 110, 116, 45, 76, 101, 110, 103, 116, 104] = clS := by decide
theorem low_te : Ch.low [84, 114, 97, 110, 115, 102, 101, 114, 45, 69, 110, 99, 111, 100, 105, 110, 103] = teS := by decide
set_option maxHeartbeats 2000000 in
set_option maxRecDepth 100000 in
theorem isLength_any (n v : ByteArray) (w : World) (hs : n.size ≤ 9223372036854775807) : Calls Tryd.prog 52 #[.agg #[.string n, .string v]] w fun e w' => e = .returned (.bool (Ch.low n.data.toList == clS)) ∧ Below w.heap.size w w' := by
  have hb0 : Below w.heap.size w (w.alloc (.cells #[.string n, .string v] 47)) := (Below.refl _ _).alloc (Nat.le_refl _) _
  have c := Ch.same_any n ⟨#[67, 111, 110, 116, 101, 110, 116, 45, 76, 101, 110, 103, 116, 104]⟩ (w.alloc (.cells #[.string n, .string v] 47)) hs (by decide)
  rw [show (⟨#[67, 111, 110, 116, 101, 110, 116, 45, 76, 101, 110, 103, 116, 104]⟩ : ByteArray).data.toList = [67, 111, 110, 116, 101, 110, 116, 45, 76, 101, 110, 103, 116, 104] from rfl, low_cl] at c
  generalize (Ch.low n.data.toList == clS) = R at c ⊢
  go_enter Tryd.func52, Tryd.ntmps52
  go_wp2_with fail
  go_at_call 33
  with_reducible refine c.mono ?_
  rintro e w3 ⟨rfl, hb⟩
  go_wp2
  go_ret
  exact ⟨rfl, below_then hb0 hb⟩
set_option maxHeartbeats 2000000 in
set_option maxRecDepth 100000 in
theorem isCoding_any (n v : ByteArray) (w : World) (hs : n.size ≤ 9223372036854775807) : Calls Tryd.prog 53 #[.agg #[.string n, .string v]] w fun e w' => e = .returned (.bool (Ch.low n.data.toList == teS)) ∧ Below w.heap.size w w' := by
  have hb0 : Below w.heap.size w (w.alloc (.cells #[.string n, .string v] 47)) := (Below.refl _ _).alloc (Nat.le_refl _) _
  have c := Ch.same_any n ⟨#[84, 114, 97, 110, 115, 102, 101, 114, 45, 69, 110, 99, 111, 100, 105, 110, 103]⟩ (w.alloc (.cells #[.string n, .string v] 47)) hs (by decide)
  rw [show (⟨#[84, 114, 97, 110, 115, 102, 101, 114, 45, 69, 110, 99, 111, 100, 105, 110, 103]⟩ : ByteArray).data.toList = [84, 114, 97, 110, 115, 102, 101, 114, 45, 69, 110, 99, 111, 100, 105, 110, 103] from rfl, low_te] at c
  generalize (Ch.low n.data.toList == teS) = R at c ⊢
  go_enter Tryd.func53, Tryd.ntmps53
  go_wp2_with fail
  go_at_call 33
  with_reducible refine c.mono ?_
  rintro e w3 ⟨rfl, hb⟩
  go_wp2
  go_ret
  exact ⟨rfl, below_then hb0 hb⟩

/-! ### blanks -/
def blankS : ByteArray := ⟨#[32, 9]⟩
theorem blankS_row : blankS.data.toList = [32, 9] := rfl
theorem blankS_asc : ∀ (j : Nat) (b : UInt8), blankS.data.toList[j]? = some b → b.toNat < 128 := by
  intro j b h
  have hm := List.mem_of_getElem? h
  rw [blankS_row] at hm
  simp at hm
  rcases hm with rfl | rfl <;> decide
theorem trim_any (s : ByteArray) (w : World) (hs : s.size ≤ 9223372036854775807) : Calls Tryd.prog 63 #[.string s, .string ⟨#[32, 9]⟩] w fun e w' => (∃ x : ByteArray, e = .returned (.string x) ∧ x.data.toList = trim s.data.toList) ∧ Below w.heap.size w w' := by
  refine (Any.strings_Trim_laid Tryd.lays160 (by kernel_rfl) s blankS w hs (by decide) blankS_asc).mono ?_
  rintro e w' ⟨rfl, hb⟩
  refine ⟨⟨_, rfl, ?_⟩, hb⟩
  rw [blankS_row, trimS_trim]

theorem eq_lists (x y : ByteArray) : (x.toList == y.toList) = decide (x.data.toList = y.data.toList) := by
  rw [Lib.toList_data, Lib.toList_data, Bool.eq_iff_iff, decide_eq_true_iff, beq_iff_eq]
/-- what a field is, if it isn't asked what its name means -/
def isF (n v : Row) : Bool := nmB n && (rng 32 126 true v && decide (trim v = v))
theorem nmB_is (n : Row) : nmB n = (decide (0 < n.length) && (decide (n.length ≤ 64) && n.all nmC)) := by
  unfold nmB
  rw [Bool.eq_iff_iff]
  simp only [Bool.and_eq_true, decide_eq_true_iff]
  constructor
  · rintro ⟨h1, h2⟩; exact ⟨by omega, by omega, h1⟩
  · rintro ⟨h1, h2, h3⟩; exact ⟨h3, by omega⟩
theorem keep_cell {w W W' : World} {g : Nat} {o : Nat} {x : Value} (hg : g < w.heap.size) (hb : Below w.heap.size w W) (hc : w.cell? ⟨g, o, none⟩ = some x) : W.cell? ⟨g, o, none⟩ = some x := (hb.cell (p := ⟨g, o, none⟩) hg).trans hc
set_option maxHeartbeats 4000000 in
set_option maxRecDepth 100000 in
theorem isField_any (n v : ByteArray) (w : World) (hn : n.size ≤ 9223372036854775807) (hv : v.size ≤ 9223372036854775807) : Calls Tryd.prog 51 #[.agg #[.string n, .string v]] w fun e w' => e = .returned (.bool (isF n.data.toList v.data.toList)) ∧ Below w.heap.size w w' := by
  have hb0 : Below w.heap.size w (w.alloc (.cells #[.string n, .string v] 47)) := (Below.refl _ _).alloc (Nat.le_refl _) _
  obtain ⟨x0, x1⟩ := box_cells w n v
  have hlt : w.heap.size < (w.alloc (.cells #[.string n, .string v] 47)).heap.size := World.block_lt_of_cell? _ _ x0
  generalize hw1 : w.alloc (.cells #[.string n, .string v] 47) = w1 at hb0 x0 x1 hlt
  have cN := made_any 61 nmC (enters_of Tryd.func61 (by kernel_rfl) rfl) (fun b W => inName_any b W) n w1 hn
  have cV := fun W => made_any 62 (rgB 32 126 true) (enters_of Tryd.func62 (by kernel_rfl) rfl) (fun b W => inValue_any b W) v W hv
  unfold isF
  rw [nmB_is, rng_all, ← Lib.size_eq]
  obtain ⟨RN, hRN⟩ : ∃ R, n.data.toList.all nmC = R := ⟨_, rfl⟩
  obtain ⟨RV, hRV⟩ : ∃ R, v.data.toList.all (rgB 32 126 true) = R := ⟨_, rfl⟩
  rw [hRN] at cN ⊢
  rw [hRV]
  simp only [hRV] at cV
  clear hRN hRV
  have hb0' := Lib.hid hb0
  have hSS := Lib.hid (fun (W : World) (h : Below w1.heap.size w1 W) => (⟨h, (h.cell (p := ⟨w.heap.size, 1, none⟩) hlt).trans x1⟩ : Below w1.heap.size w1 W ∧ W.cell? ⟨w.heap.size, 1, none⟩ = some (.string v)))
  by_cases h0 : n.size = 0
  · have hE := isE_yes n h0
    rw [decide_eq_false (by omega), Bool.false_and, Bool.false_and]
    clear h0 hb0 cN cV
    go_enter Tryd.func51, Tryd.ntmps51
    go_wp2
    go_quiet (fail)
    go_wp2
    go_ret
    exact ⟨rfl, below_drewN _ hb0'.out⟩
  have hE := isE_no n h0
  rw [decide_eq_true (by omega), Bool.true_and]
  by_cases h1 : n.size ≤ 64
  rotate_left
  · have h2 : ¬ (n.size : Int) ≤ 64 := by omega
    rw [decide_eq_false h1, Bool.false_and, Bool.false_and]
    clear hb0 cN cV h0
    go_enter Tryd.func51, Tryd.ntmps51
    go_wp2
    go_quiet (fail)
    go_wp2
    go_ret
    exact ⟨rfl, below_drewN _ hb0'.out⟩
  have h2 : (n.size : Int) ≤ 64 := by omega
  rw [decide_eq_true h1, Bool.true_and]
  cases RN with
  | false =>
    rw [Bool.false_and]
    clear hb0 cV h0
    go_enter Tryd.func51, Tryd.ntmps51
    go_wp2_with fail
    go_at_call 34
    with_reducible refine cN.mono ?_
    rintro e w3 ⟨rfl, rfl⟩
    go_wp2
    go_quiet (fail)
    go_wp2
    go_ret
    exact ⟨rfl, below_drewN _ hb0'.out⟩
  | true =>
    rw [Bool.true_and]
    cases RV with
    | false =>
      rw [Bool.false_and]
      clear hb0 h0
      go_enter Tryd.func51, Tryd.ntmps51
      go_wp2_with fail
      go_at_call 34
      with_reducible refine cN.mono ?_
      rintro e w3 ⟨rfl, rfl⟩
      go_wp2
      go_quiet ((go_at_call 34; exact Calls.quiet_of_same (cV _)))
      go_wp2
      go_ret
      exact ⟨rfl, below_drewN _ hb0'.out⟩
    | true =>
      rw [Bool.true_and]
      have cT := Lib.hid (fun (W : World) => trim_any v W hv)
      clear hb0 h0
      go_enter Tryd.func51, Tryd.ntmps51
      go_wp2_with fail
      go_at_call 34
      with_reducible refine cN.mono ?_
      rintro e w3 ⟨rfl, rfl⟩
      go_wp2_with fail
      go_region_held3 (fun W => Below w3.heap.size w3 W ∧ W.cell? ⟨w.heap.size, 1, none⟩ = some (.string v))
        (refine hSS.out _ ?_ <;> first | exact Below.drew (Below.refl _ _) | exact Below.drew (And.left (by assumption)) | exact below_then (And.left (by assumption)) (by assumption) | exact below_then (Below.drew (And.left (by assumption))) (by assumption) | assumption)
        (first | (go_at_call 34; ((with_reducible refine (cV _).mono ?_); rintro e wx ⟨rfl, rfl⟩)) | (go_at_call 63; ((with_reducible refine (cT.out _).mono ?_); rintro e wx ⟨⟨x, rfl, hx⟩, hbx⟩)))
      all_goals
        go_wp2
        go_ret
        exact ⟨ret_bool (by rw [eq_lists, hx]), below_then hb0'.out (by first | exact And.left (by assumption) | exact below_then (And.left (by assumption)) (by assumption) | assumption)⟩
end Go.Proofs.YtiaollhiggeolaaDoor.Ht
