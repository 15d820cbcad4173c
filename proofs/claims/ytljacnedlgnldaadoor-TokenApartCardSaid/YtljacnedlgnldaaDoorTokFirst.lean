/-
  THE WALKS OF LAYER token's STATEMENTS, over what the program's calls keep (PrintC, ParseC, CheckC): first, TokenWrites, TokenReads.
-/
import Derived.Test.YtljacnedlgnldaaDoorTokRefParse
set_option linter.unusedVariables false
namespace Go.Proofs.YtljacnedlgnldaaDoor.To
open Go.Lib Go.RowKit

def l1 : ByteArray := ⟨#[117, 114, 110, 58, 99, 97, 108, 101, 112, 105, 110, 58, 51, 46, 49, 55]⟩
def l2 : ByteArray := ⟨#[117, 114, 110, 58, 99, 97, 108, 101, 112, 105, 110, 58, 51, 46, 50]⟩
theorem pa_l1 : paT l1.data.toList = some (3, 17) := by decide +kernel
theorem pa_l2 : paT l2.data.toList = none := by decide +kernel
theorem pr_l1 : sv (prT 3 17) = .string ⟨#[117, 114, 110, 58, 99, 97, 108, 101, 112, 105, 110, 58, 51, 46, 49, 55]⟩ := by
  have : prT 3 17 = [117, 114, 110, 58, 99, 97, 108, 101, 112, 105, 110, 58, 51, 46, 49, 55] := by decide +kernel
  rw [this]; rfl
theorem parE_some {r : Option (Nat × Nat)} {b a : Nat} (h : r = some (b, a)) : parE r = .returned (.tuple #[tokV (b : Int) (a : Int), .int .i64 0]) := by rw [h]; rfl
theorem parE_none {r : Option (Nat × Nat)} (h : r = none) : parE r = .returned (.tuple #[tokV 0 0, .int .i64 110]) := by rw [h]; rfl
set_option maxHeartbeats 8000000 in
set_option maxRecDepth 100000 in
theorem first_walk (cPr : PrintC) (cPa : ParseC) (w : World) (hP : Ch.Pow w) : Calls Tryd.prog 7 #[] w fun e w' => e = .returned (.bool true) ∧ Below w.heap.size w w' := by
  have c1 := cPa l1 w (by decide)
  rw [parE_some pa_l1] at c1
  have c2 := fun W => cPa l2 W (by decide)
  rw [parE_none pa_l2] at c2
  unfold l1 at c1
  unfold l2 at c2
  have c3 := fun W hW => cPr 3 17 W (by decide) (by decide) hW
  rw [pr_l1] at c3
  have hq : ∀ W, (Op.equalIn 10000 23 (.agg #[.int .i64 3, .int .i64 17]) (.agg #[.int .i64 3, .int .i64 17])).run Tryd.prog W = .ok true W := fun W => eq_tok 3 17 3 17 W
  have hP' := Lib.hid hP
  clear hP cPr cPa
  go_enter Tryd.func7, Tryd.ntmps7
  go_wp2_with fail
  go_at_call 10
  refine c1.mono ?_
  rintro e w1 ⟨rfl, hb1⟩
  go_wp2_with fail
  go_at_call 10
  refine (c2 _).mono ?_
  rintro e w2 ⟨rfl, hb2⟩
  obtain ⟨x0, x1⟩ := box_two hb2
  have hbb := below_then hb1 (below_box hb2)
  have hlt : w1.heap.size < w2.heap.size := World.block_lt_of_cell? _ _ x0
  clear hb1 hb2
  go_wp2_with fail
  go_at_call 8
  refine (c3 _ (Ch.pow_below hP'.out (below_then hbb ((Below.refl _ _).alloc (Nat.le_refl _) _)))).mono ?_
  rintro e w3 ⟨rfl, hb3⟩
  have hbc := below_then hbb (below_box hb3)
  go_wp2
  go_ret
  exact ⟨rfl, hbc⟩

set_option maxHeartbeats 8000000 in
set_option maxRecDepth 100000 in
theorem writes_walk (cPr : PrintC) (cPa : ParseC) (b a : Int) (w : World) (hb : I64 b) (ha : I64 a) (hP : Ch.Pow w) : Calls Tryd.prog 3 #[tokV b a] w fun e w' => e = .returned (.bool true) ∧ Below w.heap.size w w' := by
  have hbx : Below w.heap.size w (w.alloc (.cells #[.int .i64 b, .int .i64 a] 23)) := (Below.refl _ _).alloc (Nat.le_refl _) _
  have cF := first_walk cPr cPa _ (Ch.pow_below hP hbx)
  have c1 := fun W hW => cPr b a W hb ha hW
  have c2 := fun W => refPrint_any b a W
  obtain ⟨x, hx, hxl⟩ := sv_some (prT b a)
  rw [hx] at c1 c2
  have hxs : x.size ≤ 53 := by rw [Lib.size_eq, hxl]; exact pr_len b a
  have c3 := fun W => cPa x W (by omega)
  rw [hxl] at c3
  have hq0 : ∀ W, (Op.equalIn 10000 23 (.agg #[.int .i64 0, .int .i64 0]) (.agg #[.int .i64 0, .int .i64 0])).run Tryd.prog W = .ok true W := fun W => eq_tok 0 0 0 0 W
  have hq1 : ∀ W, (Op.equalIn 10000 23 (.agg #[.int .i64 b, .int .i64 a]) (.agg #[.int .i64 b, .int .i64 a])).run Tryd.prog W = .ok true W := fun W => by
    have := eq_tok b a b a W
    simpa using this
  have hP' := Lib.hid hP
  have hway : (x.toList.isEmpty = true ∧ ∀ W, Calls Tryd.prog 10 #[.string x] W fun e w' => e = .returned (.tuple #[tokV 0 0, .int .i64 110]) ∧ Below W.heap.size W w') ∨
      (x.toList.isEmpty = false ∧ ∀ W, Calls Tryd.prog 10 #[.string x] W fun e w' => e = .returned (.tuple #[tokV b a, .int .i64 0]) ∧ Below W.heap.size W w') := by
    rcases pa_pr b a with ⟨h0, _⟩ | ⟨h0, h1, h2, h3⟩
    · left
      refine ⟨by rw [isE, hxl, decide_eq_true h0], fun W => ?_⟩
      have := c3 W
      rw [parE_none (by rw [h0]; exact pa_nil)] at this
      exact this
    · right
      refine ⟨by rw [isE, hxl, decide_eq_false h0], fun W => ?_⟩
      have := c3 W
      rw [parE_some h1, h2, h3] at this
      exact this
  clear hP cPr cPa hx hxl hxs c3
  rcases hway with ⟨hE, c3⟩ | ⟨hE, c3⟩
  all_goals
    go_enter Tryd.func3, Tryd.ntmps3
    go_wp2_with fail
    go_at_call 7
    refine cF.mono ?_
    rintro e w1 ⟨rfl, hb1⟩
    obtain ⟨x0, x1⟩ := box_two hb1
    have hB1 := below_box hb1
    have hlt : w.heap.size < w1.heap.size := World.block_lt_of_cell? _ _ x0
    clear hb1
    go_wp2_with fail
    go_at_call 8
    refine (c1 _ (Ch.pow_below hP'.out hB1)).mono ?_
    rintro e w2 ⟨rfl, hb2⟩
    have y0 := (hb2.cell (p := ⟨w.heap.size, 0, none⟩) hlt).trans x0
    have y1 := (hb2.cell (p := ⟨w.heap.size, 1, none⟩) hlt).trans x1
    have hB2 := below_then hB1 hb2
    have hlt2 : w.heap.size < w2.heap.size := World.block_lt_of_cell? _ _ y0
    clear x0 x1 hlt hb2 hB1
    go_wp2_with fail
    go_at_call 9
    refine (c2 _).mono ?_
    rintro e w3 ⟨rfl, hb3⟩
    have x0 := (hb3.cell (p := ⟨w.heap.size, 0, none⟩) hlt2).trans y0
    have x1 := (hb3.cell (p := ⟨w.heap.size, 1, none⟩) hlt2).trans y1
    have hB3 := below_then hB2 hb3
    have hlt : w.heap.size < w3.heap.size := World.block_lt_of_cell? _ _ x0
    clear y0 y1 hlt2 hb3 hB2
    go_wp2_with fail
    go_at_call 10
    refine (c3 _).mono ?_
    rintro e w4 ⟨rfl, hb4⟩
    have y0 := (hb4.cell (p := ⟨w.heap.size, 0, none⟩) hlt).trans x0
    have y1 := (hb4.cell (p := ⟨w.heap.size, 1, none⟩) hlt).trans x1
    have hB4 := below_then hB3 hb4
    have hlt2 : w.heap.size < w4.heap.size := World.block_lt_of_cell? _ _ y0
    clear x0 x1 hlt hb4 hB3
    go_wp2
    go_ret
    exact ⟨rfl, below_then hB4 ((Below.refl _ _).alloc (Nat.le_refl _) _)⟩

set_option maxHeartbeats 8000000 in
set_option maxRecDepth 100000 in
theorem reads_walk (cPr : PrintC) (cPa : ParseC) (s : ByteArray) (w : World) (hs : s.size ≤ 140737488355328) (hP : Ch.Pow w) : Calls Tryd.prog 4 #[.string s] w fun e w' => e = .returned (.bool true) ∧ Below w.heap.size w w' := by
  have cF := first_walk cPr cPa w hP
  have c1 := fun W => cPa s W hs
  have c2 := fun W => refParse_any s W hs
  have hP' := Lib.hid hP
  cases hp : paT s.data.toList with
  | none =>
    rw [parE_none hp] at c1
    rw [hp] at c2
    unfold refE at c2
    have hq0 : ∀ W, (Op.equalIn 10000 23 (.agg #[.int .i64 0, .int .i64 0]) (.agg #[.int .i64 0, .int .i64 0])).run Tryd.prog W = .ok true W := fun W => eq_tok 0 0 0 0 W
    clear hp hP cPr cPa
    go_enter Tryd.func4, Tryd.ntmps4
    go_wp2_with fail
    go_at_call 7
    refine cF.mono ?_
    rintro e w1 ⟨rfl, hb1⟩
    go_wp2_with fail
    go_at_call 10
    refine (c1 _).mono ?_
    rintro e w2 ⟨rfl, hb2⟩
    go_wp2_with fail
    go_at_call 11
    refine (c2 _).mono ?_
    rintro e w3 ⟨rfl, hb3⟩
    obtain ⟨x0, x1⟩ := box_two hb3
    have hB3 := below_then (below_then hb1 hb2) (below_box hb3)
    have hlt : w2.heap.size < w3.heap.size := World.block_lt_of_cell? _ _ x0
    clear hb1 hb2 hb3
    go_wp2
    go_ret
    exact ⟨rfl, below_then hB3 ((Below.refl _ _).alloc (Nat.le_refl _) _)⟩
  | some p =>
    obtain ⟨b, a⟩ := p
    obtain ⟨hr, hform⟩ := pa_form hp
    rw [parE_some hp] at c1
    rw [hp] at c2
    unfold refE at c2
    simp only at c2
    unfold right most at hr
    have c3 := fun W hW => cPr (b : Int) (a : Int) W (by omega) (by omega) hW
    have hpr : sv (prT (b : Int) (a : Int)) = .string s := by
      have : prT (b : Int) (a : Int) = s.data.toList := by
        rw [hform]
        unfold prT
        rw [if_pos (by unfold most; omega), Int.toNat_natCast, Int.toNat_natCast]
      rw [this, sv_data]
    rw [hpr] at c3
    have hq1 : ∀ W, (Op.equalIn 10000 23 (.agg #[.int .i64 (b : Int), .int .i64 (a : Int)]) (.agg #[.int .i64 (b : Int), .int .i64 (a : Int)])).run Tryd.prog W = .ok true W := fun W => by
      have := eq_tok (b : Int) (a : Int) (b : Int) (a : Int) W
      simpa using this
    clear hp hP cPr cPa hform hpr hr
    go_enter Tryd.func4, Tryd.ntmps4
    go_wp2_with fail
    go_at_call 7
    refine cF.mono ?_
    rintro e w1 ⟨rfl, hb1⟩
    go_wp2_with fail
    go_at_call 10
    refine (c1 _).mono ?_
    rintro e w2 ⟨rfl, hb2⟩
    go_wp2_with fail
    go_at_call 11
    refine (c2 _).mono ?_
    rintro e w3 ⟨rfl, hb3⟩
    obtain ⟨x0, x1⟩ := box_two hb3
    have hB3 := below_then (below_then hb1 hb2) (below_box hb3)
    have hlt : w2.heap.size < w3.heap.size := World.block_lt_of_cell? _ _ x0
    clear hb1 hb2 hb3
    go_wp2_with fail
    go_at_call 8
    refine (c3 _ (Ch.pow_below hP'.out (below_then hB3 ((Below.refl _ _).alloc (Nat.le_refl _) _)))).mono ?_
    rintro e w4 ⟨rfl, hb4⟩
    have hB4 := below_then hB3 (below_box hb4)
    clear hb4
    go_wp2
    go_ret
    exact ⟨rfl, hB4⟩
end Go.Proofs.YtljacnedlgnldaaDoor.To
