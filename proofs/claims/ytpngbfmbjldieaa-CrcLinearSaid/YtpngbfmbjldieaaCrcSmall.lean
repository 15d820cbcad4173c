/-
  PARTS AND CUTS: one part, the first bytes, noughts.
-/
import Derived.Test.YtpngbfmbjldieaaCrcFirst
import Derived.Test.YtpngbfmbjldieaaCodLaw
import Derived.Deep.Cut
set_option linter.unusedVariables false
namespace Go.Proofs.Ytpngbfmbjldieaa.Cr
open Go.Lib Go.RowKit
open Bo (Row)
open Ly (BtsAt)

/-- one part -/
theorem pts_one (w : World) (v : Value) (l : Row) (hb : BtsAt w v l) : PtsAt (w.alloc (.cells #[v] 22)) (.slice (some ⟨w.heap.size, 0, none⟩) 1 1) [v] [l] :=
  pts_new w 22 [v] [l] 1 rfl (by decide) _ rfl rfl fun j u l h1 h2 => by
    match j, h1, h2 with
    | 0, h1, h2 => simp at h1 h2; subst h1 h2; exact hb
    | j + 1, h1, h2 => simp at h1
theorem sum_one (w : World) (v : Value) (l : Row) (hb : BtsAt w v l) : Calls Try.prog 24 #[.slice (some ⟨w.heap.size, 0, none⟩) 1 1] (w.alloc (.cells #[v] 22)) fun e w' => e = .returned (.int .u32 ((sum l : Nat) : Int)) ∧ Below w.heap.size w w' := by
  have h := sum_any _ _ _ _ (pts_one w v l hb)
  rw [show ([l] : List Row).flatten = l by simp] at h
  refine h.mono ?_
  rintro e w' ⟨he, hb⟩
  have h0 : Below w.heap.size w (w.alloc (.cells #[v] 22)) := (Below.refl _ _).alloc (Nat.le_refl _) _
  exact ⟨he, h0.trans (hb.mono h0.size)⟩
/-- the first bytes -/
theorem bts_take {w : World} {A : Option Addr} {n c : Nat} {l : Row} (h : BtsAt w (.slice A l.length c) l) (hn : n ≤ l.length) : BtsAt w (.slice A n c) (l.take n) := by
  obtain ⟨A', b, off, c', h1, h2, h3, h4, h5⟩ := h
  injection h1 with h1 _ h6
  subst h1 h6
  have hl : (l.take n).length = n := by rw [List.length_take]; omega
  exact ⟨_, b, off, _, by rw [hl], by omega, h3, fun h0 => h4 (by omega), fun j p hj q u hu => h5 j p (by
    rw [List.getElem?_take] at hj
    by_cases hjn : j < n
    · rw [if_pos hjn] at hj; exact hj
    · rw [if_neg hjn] at hj; cases hj) q u hu⟩
/-- bytes of the call's own read as such -/
theorem bts_own {w : World} {B : Nat} {v : Value} {l : Row} (h : Ly.BOwn B v l w) : BtsAt w v l := by
  obtain ⟨A, b, off, c, h1, h2, h3, h4, h5⟩ := h.bin
  refine ⟨A, b, off, c, h1, h2, h3, fun h0 => ?_, fun j p hj q u hu => ?_⟩
  · rcases h4 with ⟨_, e, _⟩ | h4
    · subst e; simp at h0
    · exact h4
  · match q, hu with
    | 0, hu =>
      have hu' : Value.int .u8 (p.toNat : Int) = u := by simpa [Ly.encB] using hu
      rw [← hu', Nat.mul_one, Nat.add_zero]
      exact h5 j p hj
    | q + 1, hu => simp [Ly.encB] at hu
/-- noughts that are made -/
theorem made (w : World) (n : Nat) (hn : n ≤ 1048576) : ∃ w', (Instr.makeSlice 22 (.int .i64 (n : Int)) (.int .i64 (n : Int))).run Try.prog w = .ok (.slice (some ⟨w.heap.size, 0, none⟩) n n) w' ∧ Ly.BOwn w.heap.size (.slice (some ⟨w.heap.size, 0, none⟩) n n) (List.replicate n 0) w' ∧ Below w.heap.size w w' := by
  obtain ⟨i0, hi, hz0, hz1, hz2⟩ := Ly.info_parts Ly.infoU8
  obtain ⟨w', h1, h2, h3⟩ := run_make_full (P := Try.prog) w w.heap.size 22 5 i0 (.int .u8 0) 1 Try.underlying22 hi hz0 hz1 .i64 .i64 n (by rw [hz2]; omega) (by unfold maxLen; omega) (Nat.le_refl _)
  refine ⟨w', h1, ?_, (Below.refl _ _).grown h3 (Nat.le_refl _) (fun _ h => by cases h)⟩
  unfold Ly.BOwn
  rw [show (madeCells (Value.int .u8 0).cells (n * 1)).toList = Ly.bc (List.replicate n 0) by
    rw [show (Value.int .u8 0).cells = #[Value.int .u8 0] from rfl, toList_madeCells_one, Nat.mul_one]
    simp [Ly.bc]] at h2
  rw [List.length_replicate]
  exact h2
theorem bts_zeros (w : World) (n : Nat) (hm : n ≤ maxLen) (cs : Array Value) (hc : cs = Array.replicate n (.int .u8 0)) : BtsAt (w.alloc (.cells cs 5)) (.slice (some ⟨w.heap.size, 0, none⟩) n n) (List.replicate n 0) := by
  have h := row_bts w 5 (0, 0) (List.replicate n 0) n (by simp) hm
  rw [show ((List.replicate n (0 : UInt8)).map fun b => Value.int .u8 (b.toNat : Int)).toArray = cs by rw [hc]; simp] at h
  exact h
end Go.Proofs.Ytpngbfmbjldieaa.Cr
