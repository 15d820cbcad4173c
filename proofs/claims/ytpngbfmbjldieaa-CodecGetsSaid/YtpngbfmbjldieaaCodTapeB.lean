/-
  THE WALKS OF THE DOCUMENT's READER: count, text, byte, End.
-/
import Derived.Test.YtpngbfmbjldieaaCodTape
import Derived.Laws.BytesArg
import Derived.Laws.IdiomStrings
set_option linter.unusedVariables false
namespace Go.Proofs.Ytpngbfmbjldieaa.Cd
open Go.Lib Go.RowKit
open Bo (Kp Row ownsRow_heap sv sv_data)
open Ly (BOwn Wr word text flag num word_len num_word num_snoc num_lt)

theorem wrapU_nat {n : Nat} (h : n < 18446744073709551616) : IntKind.u64.wrap (n : Int) = (n : Int) := by
  unfold IntKind.wrap
  simp only [IntKind.bits, IntKind.signed, Bool.false_and, Bool.false_eq_true, if_false]
  omega
theorem numS_lt (s : St) : (numS s).1 < 18446744073709551616 := by
  cases s with
  | none => show num [] < _; decide
  | some y =>
    obtain ⟨l, f⟩ := y
    unfold numS
    by_cases h : l.length < 8
    · rw [takeS_few f h]; show num [] < _; decide
    · rw [takeS_all f (by omega)]
      have := num_lt 8 (l.take 8) (by rw [List.length_take]; omega)
      simpa using this
theorem cntB_no {n : Nat} {l : Row} {f : Bool} (h : l.length < n) : cntB n (some (l, f)) = (0, none) := by
  show (if l.length < n then _ else _) = _
  rw [if_pos h]
theorem cntB_yes {n : Nat} {l : Row} {f : Bool} (h : ¬ l.length < n) : cntB n (some (l, f)) = (n, some (l, f)) := by
  show (if l.length < n then _ else _) = _
  rw [if_neg h]
set_option maxHeartbeats 8000000 in
set_option maxRecDepth 100000 in
theorem tpCount_any (w : World) (M tb : Nat) (full : Row) (s : St) (h : TpIs w M tb full s) (hl : full.length ≤ 140737488355328) :
    Calls Try.prog 35 #[tp tb] w fun e w' => e = .returned (.int .i64 ((cntS s).1 : Int)) ∧ TpIs w' M tb full (cntS s).2 ∧ Kp [tb] w w' := by
  have cN := tpNumber_any w M tb full s h hl
  have hN := numS_lt s
  unfold cntS
  obtain ⟨N, hNe⟩ : ∃ N, (numS s).1 = N := ⟨_, rfl⟩
  obtain ⟨s1, hs1⟩ : ∃ s1, (numS s).2 = s1 := ⟨_, rfl⟩
  rw [hNe, hs1] at cN
  rw [hNe] at hN
  rw [hNe, hs1]
  obtain ⟨r1, hr1⟩ : ∃ r1, (cntB N s1).1 = r1 := ⟨_, rfl⟩
  obtain ⟨r2, hr2⟩ : ∃ r2, (cntB N s1).2 = r2 := ⟨_, rfl⟩
  rw [hr1, hr2]
  have hans := Lib.hid (And.intro hr1 hr2)
  clear hNe hs1 h hr1 hr2
  go_enter Try.func35, Try.ntmps35
  go_wp2_with fail
  go_at_call 33
  refine cN.mono ?_
  rintro e w1 ⟨rfl, hT, hK⟩
  obtain ⟨A, b, off, c, k, sh, fm, hR, rfl⟩ := hT
  have hsh := Lib.hid (fun W hb => hR.fin_short (W := W) hb)
  have c0 := Lib.cell_of_heap hR.cells 0
  have c1 := Lib.cell_of_heap hR.cells 1
  have c2 := Lib.cell_of_heap hR.cells 2
  have f2 : w1.frozen? ⟨tb, 2, none⟩ = false := Lib.frozen_of_heap hR.cells 2
  have hle := hR.le
  have hR' := Lib.hid hR
  have hK' := Lib.hid hK
  obtain ⟨n, hn⟩ : ∃ n, full.length = n := ⟨_, rfl⟩
  rw [hn] at c0 hl hle
  have hn' := Lib.hid hn
  clear hR hK cN hn
  have hfin : ∀ W, Below w1.heap.size w1 W → TpIs (W.setCell ⟨tb, 2, none⟩ (.bool true)) M tb full none ∧ Kp [tb] w (W.setCell ⟨tb, 2, none⟩ (.bool true)) := fun W hb => ⟨(hsh.out W hb).1, hK'.out.trans (hsh.out W hb).2⟩
  have hfin' := Lib.hid hfin
  clear hfin hsh
  cases sh
  · obtain ⟨D, hD⟩ : ∃ D, n - k = D := ⟨_, rfl⟩
    have hDi : (n : Int) - (k : Int) = (D : Int) := by omega
    have hDw := wrapU_nat (n := D) (by omega)
    have hdl : (full.drop k).length = D := by rw [List.length_drop, hn'.out, hD]
    by_cases hlt : D < N
    · have hc : cntB N (stOf full k false fm) = (0, none) := cntB_no (by rw [hdl]; exact hlt)
      obtain ⟨a1, a2⟩ := hans.out
      rw [hc] at a1 a2
      simp only at a1 a2
      have dd : (D : Int) < (N : Int) := by omega
      have aa := Lib.hid (And.intro a1 a2)
      clear hD hdl hc a1 a2 hans
      go_wp2
      go_quiet (fail)
      go_wp2
      go_ret
      rw [← aa.out.1, ← aa.out.2]
      exact ⟨rfl, hfin'.out _ (by first | exact Below.refl _ _ | exact below_drewN _ (Below.refl _ _) | exact Below.drew (Below.refl _ _))⟩
    · have hc : cntB N (stOf full k false fm) = (N, some (full.drop k, fm)) := cntB_yes (by rw [hdl]; exact hlt)
      obtain ⟨a1, a2⟩ := hans.out
      rw [hc] at a1 a2
      simp only at a1 a2
      have dd : ¬ (D : Int) < (N : Int) := by omega
      have hNw : IntKind.i64.wrap (N : Int) = (N : Int) := by rw [IntKind.wrap_i64]; omega
      have aa := Lib.hid (And.intro a1 a2)
      clear hD hdl hc a1 a2 hans
      go_wp2
      go_quiet (fail)
      go_wp2
      go_ret
      have hbq : ∀ W, Below w1.heap.size w1 W → TpIs W M tb full (some (full.drop k, fm)) ∧ Kp [tb] w W := fun W hb => ⟨⟨A, b, off, c, k, false, fm, hR'.out.kept hb, rfl⟩, hK'.out.trans (Kp.of_below hb)⟩
      rw [← aa.out.1, ← aa.out.2]
      exact ⟨rfl, hbq _ (by first | exact Below.refl _ _ | exact below_drewN _ (Below.refl _ _) | exact Below.drew (Below.refl _ _))⟩
  · have aa := Lib.hid (show 0 = r1 ∧ none = r2 from hans.out)
    clear hans
    go_wp2
    go_quiet (fail)
    go_wp2
    go_ret
    rw [← aa.out.1, ← aa.out.2]
    exact ⟨rfl, hfin'.out _ (by first | exact Below.refl _ _ | exact below_drewN _ (Below.refl _ _) | exact Below.drew (Below.refl _ _))⟩
set_option maxHeartbeats 2000000 in
theorem tpEnd_any (w : World) (M tb : Nat) (full : Row) (s : St) (h : TpIs w M tb full s) (hl : full.length ≤ 140737488355328) :
    Calls Try.prog 16 #[tp tb] w fun e w' => e = .returned (.int .i64 (endS s : Int)) ∧ Below w.heap.size w w' := by
  obtain ⟨A, b, off, c, k, sh, fm, hR, rfl⟩ := h
  have c0 := Lib.cell_of_heap hR.cells 0
  have c1 := Lib.cell_of_heap hR.cells 1
  have c2 := Lib.cell_of_heap hR.cells 2
  have c3 := Lib.cell_of_heap hR.cells 3
  have hle := hR.le
  obtain ⟨n, hn⟩ : ∃ n, full.length = n := ⟨_, rfl⟩
  have hdl : (full.drop k).length = n - k := by rw [List.length_drop, hn]
  rw [hn] at c0 hl hle
  clear hR hn
  cases sh
  · by_cases hlt : k < n
    · have he : endS (stOf full k false fm) = 151 := by
        show (if 0 < (full.drop k).length then 151 else _) = 151
        rw [if_pos (by omega)]
      rw [he]
      have d1 : (k : Int) < (n : Int) := by omega
      clear he hdl
      go_enter Try.func16, Try.ntmps16
      go_wp2
      go_quiet (fail)
      go_wp2
      go_ret
      exact ⟨rfl, by first | exact Below.refl _ _ | exact below_drewN _ (Below.refl _ _) | exact Below.drew (Below.refl _ _)⟩
    · have he : endS (stOf full k false fm) = if fm = true then 31 else 0 := by
        show (if 0 < (full.drop k).length then 151 else _) = _
        rw [if_neg (by omega)]
      rw [he]
      have d1 : ¬ (k : Int) < (n : Int) := by omega
      clear he hdl
      cases fm
      all_goals
        go_enter Try.func16, Try.ntmps16
        go_wp2
        go_quiet (fail)
        go_wp2
        go_ret
        exact ⟨rfl, by first | exact Below.refl _ _ | exact below_drewN _ (Below.refl _ _) | exact Below.drew (Below.refl _ _)⟩
  · go_enter Try.func16, Try.ntmps16
    go_wp2
    go_ret
    exact ⟨rfl, by first | exact Below.refl _ _ | exact below_drewN _ (Below.refl _ _) | exact Below.drew (Below.refl _ _)⟩
end Go.Proofs.Ytpngbfmbjldieaa.Cd
