/-
  THE WALKS OF TokenChecks AND TokenApart, over what the program's calls keep.
-/
import Derived.Test.YtljacnedlgnldaaDoorTokFirst
import Derived.Deep.DeepCutAuto
set_option linter.unusedVariables false
namespace Go.Proofs.YtljacnedlgnldaaDoor.To
open Go.Lib Go.RowKit

/-- two boxes, one behind the other, in each world that kept them -/
theorem box_both {w W : World} {b a d c : Int} {t u : TypeId} (hb : Below ((w.alloc (.cells #[.int .i64 b, .int .i64 a] t)).alloc (.cells #[.int .i64 d, .int .i64 c] u)).heap.size ((w.alloc (.cells #[.int .i64 b, .int .i64 a] t)).alloc (.cells #[.int .i64 d, .int .i64 c] u)) W) :
    (W.cell? ⟨w.heap.size, 0, none⟩ = some (.int .i64 b) ∧ W.cell? ⟨w.heap.size, 1, none⟩ = some (.int .i64 a) ∧ W.cell? ⟨w.heap.size + 1, 0, none⟩ = some (.int .i64 d) ∧ W.cell? ⟨w.heap.size + 1, 1, none⟩ = some (.int .i64 c)) ∧ Below w.heap.size w W ∧ w.heap.size + 1 < W.heap.size := by
  obtain ⟨y0, y1⟩ := box_two hb
  have h1 := below_box hb
  obtain ⟨x0, x1⟩ := box_two h1
  rw [World.size_alloc] at y0 y1
  exact ⟨⟨x0, x1, y0, y1⟩, below_box h1, World.block_lt_of_cell? _ _ y0⟩
def Four (g : Nat) (b a d c : Int) (W : World) : Prop := W.cell? ⟨g, 0, none⟩ = some (.int .i64 b) ∧ W.cell? ⟨g, 1, none⟩ = some (.int .i64 a) ∧ W.cell? ⟨g + 1, 0, none⟩ = some (.int .i64 d) ∧ W.cell? ⟨g + 1, 1, none⟩ = some (.int .i64 c)
theorem Four.kept {g : Nat} {b a d c : Int} {W W' : World} (h : Four g b a d c W) (hl : g + 1 < W.heap.size) (hb : Below W.heap.size W W') : Four g b a d c W' ∧ g + 1 < W'.heap.size :=
  ⟨⟨(hb.cell (p := ⟨g, 0, none⟩) (by show g < _; omega)).trans h.1, (hb.cell (p := ⟨g, 1, none⟩) (by show g < _; omega)).trans h.2.1, (hb.cell (p := ⟨g + 1, 0, none⟩) hl).trans h.2.2.1, (hb.cell (p := ⟨g + 1, 1, none⟩) hl).trans h.2.2.2⟩, Nat.lt_of_lt_of_le hl hb.size⟩

set_option maxHeartbeats 8000000 in
set_option maxRecDepth 100000 in
theorem checks_walk (cPr : PrintC) (cPa : ParseC) (cCh : CheckC) (b a book lo hi : Int) (w : World) (hP : Ch.Pow w) : Calls Tryd.prog 5 #[tokV b a, .int .i64 book, .agg #[.int .i64 lo, .int .i64 hi]] w fun e w' => e = .returned (.bool true) ∧ Below w.heap.size w w' := by
  have hbx : Below w.heap.size w ((w.alloc (.cells #[.int .i64 b, .int .i64 a] 23)).alloc (.cells #[.int .i64 lo, .int .i64 hi] 33)) := ((Below.refl _ _).alloc (Nat.le_refl _) _).alloc (by simp) _
  have cF := first_walk cPr cPa _ (Ch.pow_below hP hbx)
  have c1 := fun W => cCh b a book lo hi W
  have hway : (fitsT b a book lo hi = true ∧ (b == book) = true ∧ lo ≤ a ∧ a ≤ hi) ∨ (fitsT b a book lo hi = false ∧ ((b == book) = false ∨ ((b == book) = true ∧ ¬ lo ≤ a) ∨ ((b == book) = true ∧ lo ≤ a ∧ ¬ a ≤ hi))) := by
    unfold fitsT
    by_cases h1 : b = book
    · by_cases h2 : lo ≤ a
      · by_cases h3 : a ≤ hi
        · exact .inl ⟨by rw [decide_eq_true h1, decide_eq_true h2, decide_eq_true h3]; rfl, by simp [h1], h2, h3⟩
        · exact .inr ⟨by rw [decide_eq_true h1, decide_eq_true h2, decide_eq_false h3]; rfl, .inr (.inr ⟨by simp [h1], h2, h3⟩)⟩
      · exact .inr ⟨by rw [decide_eq_true h1, decide_eq_false h2]; rfl, .inr (.inl ⟨by simp [h1], h2⟩)⟩
    · exact .inr ⟨by rw [decide_eq_false h1]; rfl, .inl (by simp [h1])⟩
  clear cPr cPa cCh hP hbx
  rcases hway with ⟨hf, e1, e2, e3⟩ | ⟨hf, hw⟩
  · rw [hf, if_pos rfl] at c1
    clear hf
    go_enter Tryd.func5, Tryd.ntmps5
    go_wp2_with fail
    go_at_call 7
    refine cF.mono ?_
    rintro e w1 ⟨rfl, hb1⟩
    obtain ⟨⟨x0, x1, x2, x3⟩, hB, hlt⟩ := box_both hb1
    clear hb1
    go_wp2_with fail
    go_at_call 12
    refine (c1 _).mono ?_
    rintro e w2 ⟨rfl, hb2⟩
    go_wp2
    go_ret
    exact ⟨rfl, below_then hB hb2⟩
  · rw [hf, if_neg (by decide)] at c1
    clear hf
    rcases hw with e1 | ⟨e1, e2⟩ | ⟨e1, e2, e3⟩
    all_goals
      go_enter Tryd.func5, Tryd.ntmps5
      go_wp2_with fail
      go_at_call 7
      refine cF.mono ?_
      rintro e w1 ⟨rfl, hb1⟩
      obtain ⟨⟨x0, x1, x2, x3⟩, hB, hlt⟩ := box_both hb1
      clear hb1
      go_wp2_with fail
      go_at_call 12
      refine (c1 _).mono ?_
      rintro e w2 ⟨rfl, hb2⟩
      go_wp2
      go_ret
      exact ⟨rfl, below_then hB hb2⟩

set_option maxHeartbeats 16000000 in
set_option maxRecDepth 100000 in
theorem apart_walk (cPr : PrintC) (cPa : ParseC) (b a d c : Int) (mr : ByteArray) (w : World) (hb : I64 b) (ha : I64 a) (hd : I64 d) (hc : I64 c) (hm : mr.size ≤ 140737488355232) (hP : Ch.Pow w) :
    Calls Tryd.prog 6 #[tokV b a, tokV d c, .string mr] w fun e w' => e = .returned (.bool true) ∧ Below w.heap.size w w' := by
  have hbx : Below w.heap.size w ((w.alloc (.cells #[.int .i64 b, .int .i64 a] 23)).alloc (.cells #[.int .i64 d, .int .i64 c] 23)) := ((Below.refl _ _).alloc (Nat.le_refl _) _).alloc (by simp) _
  have cF := first_walk cPr cPa _ (Ch.pow_below hP hbx)
  have hP' := Lib.hid hP
  obtain ⟨x, hx, hxl⟩ := sv_some (prT b a)
  obtain ⟨y, hy, hyl⟩ := sv_some (prT d c)
  have c1 : Hid (∀ W, Ch.Pow W → Calls Tryd.prog 8 #[tokV b a] W fun e w' => e = .returned (.string x) ∧ Below W.heap.size W w') := Lib.hid fun W hW => by rw [← hx]; exact cPr b a W hb ha hW
  have c2 : Hid (∀ W, Ch.Pow W → Calls Tryd.prog 8 #[tokV d c] W fun e w' => e = .returned (.string y) ∧ Below W.heap.size W w') := Lib.hid fun W hW => by rw [← hy]; exact cPr d c W hd hc hW
  have hxs : x.size ≤ 53 := by rw [Lib.size_eq, hxl]; exact pr_len b a
  have hbig : ¬ 9223372036854775807 < x.size + mr.size := by omega
  obtain ⟨z, hz⟩ : ∃ z, x ++ mr = z := ⟨_, rfl⟩
  have hzl : z.data.toList = prT b a ++ mr.data.toList := by rw [← hz, ByteArray.data_append, Array.toList_append, hxl]
  have hzs : z.size ≤ 140737488355328 := by rw [← hz, ByteArray.size_append]; omega
  have c3 := fun W => cPa z W hzs
  rw [hzl] at c3
  have hEx : x.toList.isEmpty = decide (prT b a = []) := by rw [isE, hxl]
  have hEy : y.toList.isEmpty = decide (prT d c = []) := by rw [isE, hyl]
  have hEm : mr.toList.isEmpty = decide (mr.data.toList = []) := isE
  have hxy : (x.toList == y.toList) = decide (prT b a = prT d c) := by rw [eq_rows, hxl, hyl]
  have hway : (x.toList.isEmpty = true) ∨ (x.toList.isEmpty = false ∧ y.toList.isEmpty = true) ∨
      (x.toList.isEmpty = false ∧ y.toList.isEmpty = false ∧ ∃ Q : Bool, (x.toList == y.toList) = Q ∧ (∀ W, (Op.equalIn 10000 23 (.agg #[.int .i64 b, .int .i64 a]) (.agg #[.int .i64 d, .int .i64 c])).run Tryd.prog W = .ok Q W) ∧
        ∃ r, (∀ W, Calls Tryd.prog 10 #[.string z] W fun e w' => e = parE r ∧ Below W.heap.size W w') ∧
          (mr.toList.isEmpty = true ∨ (mr.toList.isEmpty = false ∧ (r = none ∨ ∃ m : Nat, r = some (b.toNat, m) ∧ (m : Int) ≠ a ∧ (b.toNat : Int) = b)))) := by
    by_cases h1 : prT b a = []
    · exact .inl (by rw [hEx, decide_eq_true h1])
    by_cases h2 : prT d c = []
    · exact .inr (.inl ⟨by rw [hEx, decide_eq_false h1], by rw [hEy, decide_eq_true h2]⟩)
    refine .inr (.inr ⟨by rw [hEx, decide_eq_false h1], by rw [hEy, decide_eq_false h2], _, rfl, fun W => ?_, _, c3, ?_⟩)
    · rw [eq_tok, hxy]
      congr 1
      rw [Bool.eq_iff_iff, decide_eq_true_iff, pr_inj h1 h2]
      simp
    · by_cases h3 : mr.data.toList = []
      · exact .inl (by rw [hEm, decide_eq_true h3])
      · exact .inr ⟨by rw [hEm, decide_eq_false h3], pa_more h1 h3⟩
  clear hP cPr cPa hx hy hxl hyl hxs hzl hzs c3 hEx hEy hEm hxy hbx hb ha hd hc hm
  go_enter Tryd.func6, Tryd.ntmps6
  go_wp2_with fail
  go_at_call 7
  refine cF.mono ?_
  rintro e wb ⟨rfl, hb1⟩
  obtain ⟨hF, hB, hlt⟩ := box_both hb1
  have hB' := Lib.hid hB
  have hF' : Hid (Four w.heap.size b a d c wb) := Lib.hid hF
  have hlt' := Lib.hid hlt
  have hSS := Lib.hid (fun (W : World) (h : Below wb.heap.size wb W) => (⟨h, ((show Four w.heap.size b a d c wb from hF).kept hlt h).1⟩ : Below wb.heap.size wb W ∧ W.cell? ⟨w.heap.size, 0, none⟩ = some (.int .i64 b) ∧ W.cell? ⟨w.heap.size, 1, none⟩ = some (.int .i64 a) ∧ W.cell? ⟨w.heap.size + 1, 0, none⟩ = some (.int .i64 d) ∧ W.cell? ⟨w.heap.size + 1, 1, none⟩ = some (.int .i64 c)))
  obtain ⟨x0, x1, x2, x3⟩ := hF
  have hpow := Lib.hid (fun (W : World) (h : Below wb.heap.size wb W) => Ch.pow_below hP'.out (below_then hB h))
  clear hb1 hB hlt cF
  go_wp2_with fail
  go_cut [7, 8] from 13 to 16 (fun s7 s8 wx => s7 = .string x ∧ s8 = .string y ∧ Below wb.heap.size wb wx)
  case first =>
    go_region_held3 (fun W => Below wb.heap.size wb W ∧ W.cell? ⟨w.heap.size, 0, none⟩ = some (.int .i64 b) ∧ W.cell? ⟨w.heap.size, 1, none⟩ = some (.int .i64 a) ∧ W.cell? ⟨w.heap.size + 1, 0, none⟩ = some (.int .i64 d) ∧ W.cell? ⟨w.heap.size + 1, 1, none⟩ = some (.int .i64 c))
      (refine hSS.out _ ?_ <;> first | exact Below.drew (Below.refl _ _) | exact below_then (And.left (by assumption)) (by assumption) | exact below_then (Below.drew (Below.refl _ _)) (by assumption) | assumption)
      (first | (go_at_call 8; (first | ((with_reducible refine (c1.out _ (hpow.out _ (And.left (by assumption)))).mono ?_); rintro e wx ⟨rfl, hbx⟩) | ((with_reducible refine (c2.out _ (hpow.out _ (And.left (by assumption)))).mono ?_); rintro e wy ⟨rfl, hby⟩))))
    all_goals
      go_wp2_with fail
      go_meet
    all_goals exact ⟨rfl, rfl, by first | exact And.left (by assumption) | exact below_then (And.left (by assumption)) (by assumption) | assumption⟩
  case rest =>
    obtain ⟨rfl, rfl, hbc⟩ := hcut
    have hBc := below_then hB'.out hbc
    obtain ⟨hF2, hlt2⟩ := hF'.out.kept hlt'.out hbc
    have hF2' := Lib.hid hF2
    obtain ⟨x0, x1, x2, x3⟩ := hF2
    clear hbc hSS hpow c1 c2 hF' hlt' hB'
    rcases hway with h1 | ⟨h1, h2⟩ | ⟨h1, h2, Q, hQ, hEq, r, cR, hm⟩
    · go_wp2
      go_ret
      exact ⟨rfl, hBc⟩
    · go_wp2
      go_ret
      exact ⟨rfl, hBc⟩
    · have hway : (mr.toList.isEmpty = true ∧ ∃ n m e : Int, ∀ W, Calls Tryd.prog 10 #[.string z] W fun e' w' => e' = .returned (.tuple #[tokV n m, .int .i64 e]) ∧ Below W.heap.size W w') ∨
          (mr.toList.isEmpty = false ∧ ∀ W, Calls Tryd.prog 10 #[.string z] W fun e' w' => e' = .returned (.tuple #[tokV 0 0, .int .i64 110]) ∧ Below W.heap.size W w') ∨
          (mr.toList.isEmpty = false ∧ ∃ m : Int, (∀ W, Calls Tryd.prog 10 #[.string z] W fun e' w' => e' = .returned (.tuple #[tokV b m, .int .i64 0]) ∧ Below W.heap.size W w') ∧
            ∀ W, (Op.equalIn 10000 23 (.agg #[.int .i64 b, .int .i64 m]) (.agg #[.int .i64 b, .int .i64 a])).run Tryd.prog W = .ok false W) := by
        rcases hm with hm | ⟨hm, hr⟩
        · refine .inl ⟨hm, ?_⟩
          cases r with
          | none => exact ⟨0, 0, 110, cR⟩
          | some p => exact ⟨_, _, 0, cR⟩
        · rcases hr with rfl | ⟨m, rfl, hne, hbn⟩
          · exact .inr (.inl ⟨hm, cR⟩)
          · refine .inr (.inr ⟨hm, (m : Int), fun W => ?_, fun W => ?_⟩)
            · have := cR W
              unfold parE at this
              simp only [hbn] at this
              exact this
            · rw [eq_tok]
              congr 1
              simp
              exact hne
      clear cR hm
      have hbB : (b == b) = true := by simp
      rcases hway with ⟨hm, n, m, e0, cR⟩ | ⟨hm, cR⟩ | ⟨hm, m, cR, hN⟩
      all_goals
        cases Q <;>
          (go_wp2_with fail
           go_at_call 10
           refine (cR _).mono ?_
           rintro e w5 ⟨rfl, hb5⟩
           obtain ⟨hF3, hlt3⟩ := hF2'.out.kept hlt2 hb5
           obtain ⟨y0, y1, y2, y3⟩ := hF3
           have hB5 := below_then hBc hb5
           have hlt4 : w.heap.size < w5.heap.size := by omega
           clear x0 x1 x2 x3 hb5
           go_wp2
           go_ret
           exact ⟨rfl, below_then hB5 ((Below.refl _ _).alloc (Nat.le_refl _) _)⟩)
end Go.Proofs.YtljacnedlgnldaaDoor.To
