/-
  THE REFERENCE'S TEXT of the canonical lines.
-/
import Derived.Test.YthnnpnlapjlnoaaGreatDoorMgC
set_option linter.unusedVariables false
namespace Go.Proofs.YthnnpnlapjlnoaaGreatDoor.Ca
open Go.Lib Go.RowKit
open Li (LD PD sv POwn LOwn LineAt PrmsAt chk pr)

theorem body_sum (Ls : List LD) : (body Ls Ls.length).length ≤ 4 * prsum Ls := by
  unfold body prsum
  rw [List.take_length]
  induction Ls with
  | nil => simp
  | cons L Ls ih =>
    have h1 : (Fo.foldL (pr L)).length ≤ 4 * (pr L).length := Fo.foldF_len _ _ 75 (by omega)
    simp only [List.flatMap_cons, List.length_append, List.map_cons, List.sum_cons]
    omega
/-- the text of the canonical lines -/
theorem textC_any (u : Value) (Ls : List LD) (w : World) (h : LinesAt w u (canC Ls)) (hS : prsum Ls ≤ 67108864) (hc : checkE Ls = 0) :
    Calls Tryz.prog 15 #[u] w fun e w' => (∃ x : ByteArray, x.data.toList = cardT (canC Ls) ∧ e = .returned (.string x)) ∧ Below w.heap.size w w' := by
  have h1 := prsum_canC hc
  have h2 := (checkE_zero.1 (canC_check hc)).1
  exact text_any u (canC Ls) w h (fun L hL p hp => ((Li.good_chk (h2 L hL)).params p hp).2.1) (fun L hL => by have := prsum_mem hL; omega) (by have := body_sum (canC Ls); omega)
theorem data_is {x y : ByteArray} (h : x.data.toList = y.data.toList) : x = y := by
  cases x; cases y
  simp only [Array.toList_inj] at h
  rw [h]
end Go.Proofs.YthnnpnlapjlnoaaGreatDoor.Ca
