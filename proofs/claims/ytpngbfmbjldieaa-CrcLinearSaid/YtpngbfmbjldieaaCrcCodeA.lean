/-
  THE WALKS OF crc.shift AND crc.halves.
-/
import Derived.Test.YtpngbfmbjldieaaCrcPlain
import Derived.Test.YtpngbfmbjldieaaLayB
import Derived.Laws.BitsAllLaws
import Derived.Lib.Builder
import Derived.BigQuiet
set_option linter.unusedVariables false
namespace Go.Proofs.Ytpngbfmbjldieaa.Cr
open Go.Lib Go.RowKit
open Bo (Row)

theorem wrap_u32n {n : Nat} (h : n < 4294967296) : IntKind.u32.wrap (n : Int) = (n : Int) := by
  rw [IntKind.wrap_u32']; omega
set_option maxHeartbeats 2000000 in
theorem shift_any (w : World) (r : Nat) (h : r < 4294967296) :
    Calls Try.prog 59 #[.int .u32 (r : Int)] w fun e w' => e = .returned (.int .u32 (stp r : Int)) ∧ w' = w := by
  have h1 : bits .and .u32 (r : Int) 1 = ((r % 2 : Nat) : Int) := by
    have := u32_and_nat r 1 h (by decide)
    rw [Nat.and_one_is_mod] at this
    exact this
  by_cases hr : r % 2 = 1
  · have hs : stp r = (r / 2) ^^^ poly := by unfold stp; rw [if_pos hr]
    have h2 : bits .xor .u32 ((r : Int) / 2) 3988292384 = ((stp r : Nat) : Int) := by
      rw [hs]
      have := u32_xor_nat (r / 2) poly (by omega) (by decide)
      rw [← this]
      rfl
    rw [hr] at h1
    clear hs hr
    go_enter Try.func59, Try.ntmps59
    go_wp2
    go_ret
    exact ⟨rfl, rfl⟩
  · have hr0 : r % 2 = 0 := by omega
    have hs : ((stp r : Nat) : Int) = (r : Int) / 2 := by unfold stp; rw [if_neg hr]; omega
    rw [hr0] at h1
    rw [hs]
    clear hs hr
    go_enter Try.func59, Try.ntmps59
    go_wp2
    go_ret
    exact ⟨rfl, rfl⟩

/-- the half bytes' sums, up to k -/
def tabE (k i : Nat) : Value := .int .u32 ((if i < k then stps 4 i else 0 : Nat) : Int)
def tab (k : Nat) : Array Value := #[tabE k 0, tabE k 1, tabE k 2, tabE k 3, tabE k 4, tabE k 5, tabE k 6, tabE k 7, tabE k 8, tabE k 9, tabE k 10, tabE k 11, tabE k 12, tabE k 13, tabE k 14, tabE k 15]
theorem tab_zero : tab 0 = #[.int .u32 0, .int .u32 0, .int .u32 0, .int .u32 0, .int .u32 0, .int .u32 0, .int .u32 0, .int .u32 0, .int .u32 0, .int .u32 0, .int .u32 0, .int .u32 0, .int .u32 0, .int .u32 0, .int .u32 0, .int .u32 0] := rfl
theorem tab_get (k i : Nat) (h : i < 16) : (tab k)[i]? = some (tabE k i) := by
  rcases i with _ | _ | _ | _ | _ | _ | _ | _ | _ | _ | _ | _ | _ | _ | _ | _ | i
  all_goals first | rfl | omega
theorem tab_set (k : Nat) (h : k < 16) : (tab k).setIfInBounds k (.int .u32 (stps 4 k : Int)) = tab (k + 1) := by
  apply Array.ext_getElem?
  intro i
  by_cases hi : i < 16
  · rw [tab_get _ i hi, Array.getElem?_setIfInBounds]
    by_cases e : k = i
    · subst e
      rw [if_pos rfl, if_pos (show k < (tab k).size from h)]
      unfold tabE
      rw [if_pos (by omega)]
    · rw [if_neg e, tab_get _ i hi]
      unfold tabE
      by_cases h2 : i < k
      · rw [if_pos h2, if_pos (by omega)]
      · rw [if_neg h2, if_neg (by omega)]
  · rw [Array.getElem?_eq_none (by rw [Array.size_setIfInBounds]; show 16 ≤ i; omega), Array.getElem?_eq_none (by show 16 ≤ i; omega)]
def tabV : Value := .agg (tab 16)
/-- the two arrays while the second is filled -/
structure HalvesAt (w : World) (k : Nat) (wr : World) : Prop where
  b0 : wr.heap[w.heap.size]? = some (.cells (tab 0) 86 (0, 0))
  b1 : wr.heap[w.heap.size + 1]? = some (.cells (tab k) 86 (0, 0))
  below : Below w.heap.size w wr
theorem stps_more : ∀ (n r : Nat), stps (n + 1) r = stp (stps n r)
  | 0, r => rfl
  | n + 1, r => by
    show stps (n + 1) (stp r) = stp (stps n (stp r))
    exact stps_more n (stp r)
theorem size_alloc (w : World) (o : Obj) : (w.alloc o).heap.size = w.heap.size + 1 := by simp
theorem HalvesAt.set {w wr : World} {k : Nat} (h : HalvesAt w k wr) (hk : k < 16) : HalvesAt w (k + 1) (wr.setCell ⟨w.heap.size + 1, k, none⟩ (.int .u32 (stps 4 k : Int))) := by
  refine ⟨(Below.heap_setCell _ _ _ _ (by show w.heap.size ≠ w.heap.size + 1; omega)).trans h.b0, ?_, ?_⟩
  · rw [← tab_set k hk]
    simp [World.setCell, Array.getElem?_modify, h.b1]
  · exact h.below.setCell (by show w.heap.size ≤ w.heap.size + 1; omega) _
set_option maxHeartbeats 8000000 in
set_option maxRecDepth 100000 in
theorem halves_any (w : World) :
    Calls Try.prog 41 #[] w fun e w' => e = .returned tabV ∧ Below w.heap.size w w' := by
  go_enter Try.func41, Try.ntmps41
  go_wp2
  go_loopw [4] (fun s4 wr => ∃ k : Nat, s4 = .int .u32 (k : Int) ∧ k ≤ 16 ∧ Hid (HalvesAt w k wr)) (fun s4 wr => 16 - (RowKit.intOf s4).toNat)
  case atStart =>
    refine ⟨0, rfl, by omega, Lib.hid ⟨?_, ?_, ?_⟩⟩
    · exact (Below.heap_alloc _ _ _ (by rw [size_alloc]; omega)).trans (heap_alloc_new w _)
    · have := heap_alloc_new (w.alloc (.cells (tab 0) 86)) (.cells (tab 0) 86)
      rw [size_alloc] at this
      exact this
    · exact ((Below.refl _ _).alloc (Nat.le_refl _) _).alloc (by rw [size_alloc]; omega) _
  case round =>
    obtain ⟨k, rfl, hk, hH⟩ := hrel
    by_cases hlt : k < 16
    · have hwk : IntKind.u32.wrap ((k : Int) + 1) = ((k + 1 : Nat) : Int) := by rw [IntKind.wrap_u32']; omega
      go_wp2
      go_loopw [3, 8] (fun s3 s8 wq => wq = wr ∧ ∃ j : Nat, s8 = .int .i64 (j : Int) ∧ j ≤ 4 ∧ s3 = .int .u32 (stps j k : Int)) (fun s3 s8 wq => 4 - (RowKit.intOf s8).toNat)
      case atStart => exact ⟨rfl, 0, rfl, by omega, rfl⟩
      case round =>
        obtain ⟨rfl, j, rfl, hj, rfl⟩ := hrel
        by_cases hlj : j < 4
        · have cS := shift_any wr (stps j k) (stps_lt j (by omega))
          rw [← stps_more] at cS
          go_wp2_with fail
          go_at_call 59
          refine cS.mono ?_
          rintro e w1 ⟨rfl, rfl⟩
          go_wp2
          go_roundw
          case rel => rw [show decide ((k : Int) < 16) = true from decide_eq_true (by omega)]; exact ⟨_, _, _, _, _, _, ⟨trivial, j + 1, by go_num, by omega, rfl⟩, rfl⟩
          case measure => simp [RowKit.intOf]; omega
        · obtain rfl : j = 4 := by omega
          have c1 : wr.cell? ⟨w.heap.size + 1, k, none⟩ = some (tabE k k) := (Lib.cell_of_heap hH.out.b1 k).trans (tab_get k k hlt)
          have f1 : wr.frozen? ⟨w.heap.size + 1, k, none⟩ = false := Lib.frozen_of_heap hH.out.b1 k
          have hS := Lib.hid (hH.out.set hlt)
          go_wp2
          exact ⟨⟨k + 1, by go_num, by omega, hS⟩, by simp [RowKit.intOf]; omega⟩
    · obtain rfl : k = 16 := by omega
      obtain ⟨x, hx⟩ : ∃ x : Nat → Nat, (fun i => stps 4 i) = x := ⟨_, rfl⟩
      have c0 : wr.cell? ⟨w.heap.size + 1, 0, none⟩ = some (.int .u32 (x 0 : Int)) := by rw [← hx]; exact (Lib.cell_of_heap hH.out.b1 0).trans rfl
      have c1 : wr.cell? ⟨w.heap.size + 1, 1, none⟩ = some (.int .u32 (x 1 : Int)) := by rw [← hx]; exact (Lib.cell_of_heap hH.out.b1 1).trans rfl
      have c2 : wr.cell? ⟨w.heap.size + 1, 2, none⟩ = some (.int .u32 (x 2 : Int)) := by rw [← hx]; exact (Lib.cell_of_heap hH.out.b1 2).trans rfl
      have c3 : wr.cell? ⟨w.heap.size + 1, 3, none⟩ = some (.int .u32 (x 3 : Int)) := by rw [← hx]; exact (Lib.cell_of_heap hH.out.b1 3).trans rfl
      have c4 : wr.cell? ⟨w.heap.size + 1, 4, none⟩ = some (.int .u32 (x 4 : Int)) := by rw [← hx]; exact (Lib.cell_of_heap hH.out.b1 4).trans rfl
      have c5 : wr.cell? ⟨w.heap.size + 1, 5, none⟩ = some (.int .u32 (x 5 : Int)) := by rw [← hx]; exact (Lib.cell_of_heap hH.out.b1 5).trans rfl
      have c6 : wr.cell? ⟨w.heap.size + 1, 6, none⟩ = some (.int .u32 (x 6 : Int)) := by rw [← hx]; exact (Lib.cell_of_heap hH.out.b1 6).trans rfl
      have c7 : wr.cell? ⟨w.heap.size + 1, 7, none⟩ = some (.int .u32 (x 7 : Int)) := by rw [← hx]; exact (Lib.cell_of_heap hH.out.b1 7).trans rfl
      have c8 : wr.cell? ⟨w.heap.size + 1, 8, none⟩ = some (.int .u32 (x 8 : Int)) := by rw [← hx]; exact (Lib.cell_of_heap hH.out.b1 8).trans rfl
      have c9 : wr.cell? ⟨w.heap.size + 1, 9, none⟩ = some (.int .u32 (x 9 : Int)) := by rw [← hx]; exact (Lib.cell_of_heap hH.out.b1 9).trans rfl
      have c10 : wr.cell? ⟨w.heap.size + 1, 10, none⟩ = some (.int .u32 (x 10 : Int)) := by rw [← hx]; exact (Lib.cell_of_heap hH.out.b1 10).trans rfl
      have c11 : wr.cell? ⟨w.heap.size + 1, 11, none⟩ = some (.int .u32 (x 11 : Int)) := by rw [← hx]; exact (Lib.cell_of_heap hH.out.b1 11).trans rfl
      have c12 : wr.cell? ⟨w.heap.size + 1, 12, none⟩ = some (.int .u32 (x 12 : Int)) := by rw [← hx]; exact (Lib.cell_of_heap hH.out.b1 12).trans rfl
      have c13 : wr.cell? ⟨w.heap.size + 1, 13, none⟩ = some (.int .u32 (x 13 : Int)) := by rw [← hx]; exact (Lib.cell_of_heap hH.out.b1 13).trans rfl
      have c14 : wr.cell? ⟨w.heap.size + 1, 14, none⟩ = some (.int .u32 (x 14 : Int)) := by rw [← hx]; exact (Lib.cell_of_heap hH.out.b1 14).trans rfl
      have c15 : wr.cell? ⟨w.heap.size + 1, 15, none⟩ = some (.int .u32 (x 15 : Int)) := by rw [← hx]; exact (Lib.cell_of_heap hH.out.b1 15).trans rfl
      have d0 : wr.cell? ⟨w.heap.size, 0, none⟩ = some (.int .u32 0) := (Lib.cell_of_heap hH.out.b0 0).trans rfl
      have d1 : wr.cell? ⟨w.heap.size, 1, none⟩ = some (.int .u32 0) := (Lib.cell_of_heap hH.out.b0 1).trans rfl
      have d2 : wr.cell? ⟨w.heap.size, 2, none⟩ = some (.int .u32 0) := (Lib.cell_of_heap hH.out.b0 2).trans rfl
      have d3 : wr.cell? ⟨w.heap.size, 3, none⟩ = some (.int .u32 0) := (Lib.cell_of_heap hH.out.b0 3).trans rfl
      have d4 : wr.cell? ⟨w.heap.size, 4, none⟩ = some (.int .u32 0) := (Lib.cell_of_heap hH.out.b0 4).trans rfl
      have d5 : wr.cell? ⟨w.heap.size, 5, none⟩ = some (.int .u32 0) := (Lib.cell_of_heap hH.out.b0 5).trans rfl
      have d6 : wr.cell? ⟨w.heap.size, 6, none⟩ = some (.int .u32 0) := (Lib.cell_of_heap hH.out.b0 6).trans rfl
      have d7 : wr.cell? ⟨w.heap.size, 7, none⟩ = some (.int .u32 0) := (Lib.cell_of_heap hH.out.b0 7).trans rfl
      have d8 : wr.cell? ⟨w.heap.size, 8, none⟩ = some (.int .u32 0) := (Lib.cell_of_heap hH.out.b0 8).trans rfl
      have d9 : wr.cell? ⟨w.heap.size, 9, none⟩ = some (.int .u32 0) := (Lib.cell_of_heap hH.out.b0 9).trans rfl
      have d10 : wr.cell? ⟨w.heap.size, 10, none⟩ = some (.int .u32 0) := (Lib.cell_of_heap hH.out.b0 10).trans rfl
      have d11 : wr.cell? ⟨w.heap.size, 11, none⟩ = some (.int .u32 0) := (Lib.cell_of_heap hH.out.b0 11).trans rfl
      have d12 : wr.cell? ⟨w.heap.size, 12, none⟩ = some (.int .u32 0) := (Lib.cell_of_heap hH.out.b0 12).trans rfl
      have d13 : wr.cell? ⟨w.heap.size, 13, none⟩ = some (.int .u32 0) := (Lib.cell_of_heap hH.out.b0 13).trans rfl
      have d14 : wr.cell? ⟨w.heap.size, 14, none⟩ = some (.int .u32 0) := (Lib.cell_of_heap hH.out.b0 14).trans rfl
      have d15 : wr.cell? ⟨w.heap.size, 15, none⟩ = some (.int .u32 0) := (Lib.cell_of_heap hH.out.b0 15).trans rfl
      have f0 : wr.frozen? ⟨w.heap.size, 0, none⟩ = false := Lib.frozen_of_heap hH.out.b0 0
      have f1 : wr.frozen? ⟨w.heap.size, 1, none⟩ = false := Lib.frozen_of_heap hH.out.b0 1
      have f2 : wr.frozen? ⟨w.heap.size, 2, none⟩ = false := Lib.frozen_of_heap hH.out.b0 2
      have f3 : wr.frozen? ⟨w.heap.size, 3, none⟩ = false := Lib.frozen_of_heap hH.out.b0 3
      have f4 : wr.frozen? ⟨w.heap.size, 4, none⟩ = false := Lib.frozen_of_heap hH.out.b0 4
      have f5 : wr.frozen? ⟨w.heap.size, 5, none⟩ = false := Lib.frozen_of_heap hH.out.b0 5
      have f6 : wr.frozen? ⟨w.heap.size, 6, none⟩ = false := Lib.frozen_of_heap hH.out.b0 6
      have f7 : wr.frozen? ⟨w.heap.size, 7, none⟩ = false := Lib.frozen_of_heap hH.out.b0 7
      have f8 : wr.frozen? ⟨w.heap.size, 8, none⟩ = false := Lib.frozen_of_heap hH.out.b0 8
      have f9 : wr.frozen? ⟨w.heap.size, 9, none⟩ = false := Lib.frozen_of_heap hH.out.b0 9
      have f10 : wr.frozen? ⟨w.heap.size, 10, none⟩ = false := Lib.frozen_of_heap hH.out.b0 10
      have f11 : wr.frozen? ⟨w.heap.size, 11, none⟩ = false := Lib.frozen_of_heap hH.out.b0 11
      have f12 : wr.frozen? ⟨w.heap.size, 12, none⟩ = false := Lib.frozen_of_heap hH.out.b0 12
      have f13 : wr.frozen? ⟨w.heap.size, 13, none⟩ = false := Lib.frozen_of_heap hH.out.b0 13
      have f14 : wr.frozen? ⟨w.heap.size, 14, none⟩ = false := Lib.frozen_of_heap hH.out.b0 14
      have f15 : wr.frozen? ⟨w.heap.size, 15, none⟩ = false := Lib.frozen_of_heap hH.out.b0 15
      have hb0 := hH.out.b0
      have hbel := hH.out.below
      have hF : ∀ wz, wr.setCell ⟨w.heap.size, 0, none⟩ (.int .u32 (x 0 : Int)) = wz → True := fun _ _ => trivial
      have hset : ∀ (i : Nat) (v : Value) (W : World) (cs : Array Value), W.heap[w.heap.size]? = some (.cells cs 86 (0, 0)) → (W.setCell ⟨w.heap.size, i, none⟩ v).heap[w.heap.size]? = some (.cells (cs.setIfInBounds i v) 86 (0, 0)) := fun i v W cs h => by simp [World.setCell, Array.getElem?_modify, h]
      have hEnd := hset 15 (.int .u32 (x 15 : Int)) _ _ (hset 14 (.int .u32 (x 14 : Int)) _ _ (hset 13 (.int .u32 (x 13 : Int)) _ _ (hset 12 (.int .u32 (x 12 : Int)) _ _ (hset 11 (.int .u32 (x 11 : Int)) _ _ (hset 10 (.int .u32 (x 10 : Int)) _ _ (hset 9 (.int .u32 (x 9 : Int)) _ _ (hset 8 (.int .u32 (x 8 : Int)) _ _ (hset 7 (.int .u32 (x 7 : Int)) _ _ (hset 6 (.int .u32 (x 6 : Int)) _ _ (hset 5 (.int .u32 (x 5 : Int)) _ _ (hset 4 (.int .u32 (x 4 : Int)) _ _ (hset 3 (.int .u32 (x 3 : Int)) _ _ (hset 2 (.int .u32 (x 2 : Int)) _ _ (hset 1 (.int .u32 (x 1 : Int)) _ _ (hset 0 (.int .u32 (x 0 : Int)) _ _ hb0)))))))))))))))
      have hB := fun (o : Nat) (v : Value) (W : World) (h : Below w.heap.size w W) => h.setCell (p := ⟨w.heap.size, o, none⟩) (Nat.le_refl _) v
      have hEB := hB 15 (.int .u32 (x 15 : Int)) _ (hB 14 (.int .u32 (x 14 : Int)) _ (hB 13 (.int .u32 (x 13 : Int)) _ (hB 12 (.int .u32 (x 12 : Int)) _ (hB 11 (.int .u32 (x 11 : Int)) _ (hB 10 (.int .u32 (x 10 : Int)) _ (hB 9 (.int .u32 (x 9 : Int)) _ (hB 8 (.int .u32 (x 8 : Int)) _ (hB 7 (.int .u32 (x 7 : Int)) _ (hB 6 (.int .u32 (x 6 : Int)) _ (hB 5 (.int .u32 (x 5 : Int)) _ (hB 4 (.int .u32 (x 4 : Int)) _ (hB 3 (.int .u32 (x 3 : Int)) _ (hB 2 (.int .u32 (x 2 : Int)) _ (hB 1 (.int .u32 (x 1 : Int)) _ (hB 0 (.int .u32 (x 0 : Int)) _ hbel)))))))))))))))
      have hE := Lib.hid (And.intro hEnd hEB)
      clear hset hB hEnd hEB hF hb0 hbel
      go_wp2
      have hres := fun tm (hp : tm.getD 0 undef = .pointer (some ⟨w.heap.size, 0, none⟩)) => results_cell_row (fn := Try.f41) (p := 0) (ty := 86) rfl tm _ w.heap.size _ _ _ _ hp hE.out.1 Try.underlying86 rfl (by kernel_rfl)
      refine bodyPost_ret (hres _ rfl) rfl ⟨?_, hE.out.2⟩
      rw [← hx]
      rfl
end Go.Proofs.Ytpngbfmbjldieaa.Cr
