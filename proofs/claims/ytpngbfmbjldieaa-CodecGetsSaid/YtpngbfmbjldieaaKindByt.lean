/-
  A PARAMETER OF TYPE []byte, TOLD AS A ROW OF BYTES ('BtsAt').
-/
import Derived.Test.YtpngbfmbjldieaaKindCmd
import Derived.Test.YtpngbfmbjldieaaRdrA
set_option linter.unusedVariables false
namespace Go.Proofs.Ytpngbfmbjldieaa.Kc
open Go.Lib Go.RowKit Go.ChangeShapes Go.WideShapes Go.ChangeAt Go.Deep Cd
open Bo (Row sv sv_data)
open Ly (BtsAt encB)

variable {H : Type} {enc : TypeId × Value → H}
theorem wf_u8 {z : Int} (h : (Lit.int .u8 z).wf = true) : 0 ≤ z ∧ z ≤ 255 := by
  simp [Lit.wf, IntKind.min, IntKind.max, IntKind.signed, IntKind.bits] at h
  omega
set_option maxRecDepth 100000 in
theorem byts_open {base : Nat} {W : World} {v : Value} {d : DataW H} {ps : List MemPlace} (hval : Value.okWide Try.prog W .any base 22 v) (h : DataW.Trod enc Try.prog W 0 (fun _ => true) true 22 v d ps) : ∃ l : Row, BtsAt W v l := by
  obtain ⟨a0, len0, cap0, rfl⟩ := okWide_slice Try.underlying22 hval
  obtain ⟨fuel, hf⟩ := h
  have hce : Try.prog.cellsOf 5 = 1 := by kernel_rfl
  have hf' : DataW.trod enc Try.prog W 0 (fun _ => true) true fuel 22 [.slice a0 len0 cap0] = some (d, ps) := hf
  rcases open_slice1 Try.underlying22 hce hf' with ⟨hcs, hx⟩ | ⟨a, len, cap, m, n, V, D, Pl, hcs, _, hl, hm, hmm, hx, hi⟩
  · simp at hcs
    obtain ⟨rfl, rfl, rfl⟩ := hcs
    exact ⟨[], RowsAt.nil W⟩
  · simp at hcs
    obtain ⟨rfl, rfl, rfl⟩ := hcs
    simp only [if_true] at hmm
    obtain ⟨qs, hqs, hp⟩ := listed (fun i (p : UInt8) => W.cell? (a.add i) = some (.int .u8 (p.toNat : Int))) len0 (fun i hil => by
      obtain ⟨hc, ht⟩ := hi i (by omega)
      obtain ⟨z, hs, hx, hw⟩ := DataW.trod_int Try.underlying5 ht
      simp at hs
      have hb := wf_u8 hw
      refine ⟨UInt8.ofNat z.toNat, ?_⟩
      have e : (((UInt8.ofNat z.toNat).toNat : Nat) : Int) = z := by rw [UInt8.toNat_ofNat']; omega
      rw [e, hc, hs])
    have key : 0 < qs.length → a = ⟨a.block, a.off, none⟩ ∧ a.block < W.heap.size := fun h0 => by
      have h1 : qs[0]? = some (qs[0]'h0) := List.getElem?_eq_getElem _
      have h2 := hp 0 _ h1
      have h3 := add_spot a (spot_none h2)
      have h4 := World.block_lt_of_cell? W (a.add 0) h2
      rw [h3, add_is] at h4
      exact ⟨h3, h4⟩
    refine ⟨qs, ⟨some a, a.block, a.off, cap0, by rw [hqs], by omega, hm, fun h0 => ?_, fun j p hj q u hu => ?_⟩⟩
    · obtain ⟨h3, h4⟩ := key h0
      exact ⟨by rw [← h3], h4⟩
    · have g0 := hp j p hj
      obtain ⟨h3, _⟩ := key (by have := (List.getElem?_eq_some_iff.1 hj).1; omega)
      rw [h3, add_is] at g0
      match q, hu with
      | 0, hu =>
        simp [encB] at hu
        subst hu
        rw [Nat.mul_one, Nat.add_zero]
        exact g0
      | q + 1, hu => simp [encB] at hu
end Go.Proofs.Ytpngbfmbjldieaa.Kc
