/-
  A PARAMETER OF TYPE []byte: what its reading gives.
-/
import Derived.Test.YtiaollhiggeolaaDoorKindReq
import Derived.Test.YtiaollhiggeolaaDoorHttpFieldsP
set_option linter.unusedVariables false
namespace Go.Proofs.YtiaollhiggeolaaDoor.La
open Go.Lib Go.RowKit Go.Shelf Go.ChangeShapes Go.WideShapes Go.ChangeAt Ht

theorem bulk_one {H : Type} (d : DataW H) : 1 ≤ Rows.uptoBulk d := by
  cases d with
  | lit l => cases l <;> simp [Rows.uptoBulk]
  | _ => simp [Rows.uptoBulk]
theorem bulk_len {H : Type} (l : List (DataW H)) : l.length ≤ Rows.uptoBulkAll l := by
  induction l with
  | nil => simp [Rows.uptoBulkAll]
  | cons d r ih => have := bulk_one d; simp [Rows.uptoBulkAll]; omega

variable {H : Type} {enc : TypeId × Value → H}
theorem add_block (a : Addr) (i : Nat) : (a.add i).block = a.block := by unfold Addr.add; split <;> rfl
theorem u8_bd {n : Int} (h : (Lit.int .u8 n).wf = true) : 0 ≤ n ∧ n ≤ 255 := by
  simp [Lit.wf, IntKind.min, IntKind.max, IntKind.signed, IntKind.bits] at h
  omega
set_option maxRecDepth 100000 in
theorem bytes_open {base : Nat} {W : World} {v : Value} {d : DataW H} {ps : List MemPlace} (hval : Value.okWide Tryd.prog W .any base 52 v) (h : DataW.Trod enc Tryd.prog W 0 (fun _ => true) true 52 v d ps) :
    ∃ zs, BsAt W v zs ∧ zs.length ≤ Rows.uptoBulk d := by
  obtain ⟨a, len, cap, rfl⟩ := okWide_slice Tryd.underlying52 hval
  obtain ⟨fuel, hf⟩ := h
  have hce : Tryd.prog.cellsOf 5 = 1 := by kernel_rfl
  rcases open_ints Tryd.underlying52 Tryd.underlying5 hce hf with ⟨hcs, hx⟩ | ⟨a', len', cap', zs, hcs, _, hl, hm, hz, hx, hcell, hwz⟩
  · simp [Value.cells] at hcs
    obtain ⟨rfl, rfl, rfl⟩ := hcs
    simp only [Prod.mk.injEq] at hx
    obtain ⟨rfl, rfl⟩ := hx
    exact ⟨[], ⟨none, 0, 0, 0, rfl, by simp, fun h => absurd rfl h, fun j hj => absurd hj (Nat.not_lt_zero _), fun n hn => by simp at hn⟩, Nat.zero_le _⟩
  · simp [Value.cells] at hcs
    obtain ⟨rfl, rfl, rfl⟩ := hcs
    simp only [Prod.mk.injEq] at hx
    obtain ⟨rfl, rfl⟩ := hx
    simp only [if_true] at hz
    have hlen : (zs.take len).length = len := by rw [List.length_take]; omega
    have hbig : ∀ n ∈ zs, 0 ≤ n ∧ n ≤ 255 := fun n hn => u8_bd (hwz n hn)
    have hblk : ∀ i, i < zs.length → a'.block < W.heap.size := fun i hi => by rw [← add_block a' i]; exact World.block_lt_of_cell? W (a'.add i) (hcell i hi)
    refine ⟨zs.take len, ?_, ?_⟩
    · rcases Nat.eq_zero_or_pos zs.length with h0 | h0
      · have hl0 : len = 0 := by omega
        subst hl0
        exact ⟨_, 0, 0, cap, by rw [hlen], by rw [hlen]; omega, fun h => absurd (by simp) h, fun j hj => by simp at hj, fun n hn => by simp at hn⟩
      · have hs := spot_none (hcell 0 h0)
        obtain ⟨b, off, spot⟩ := a'
        have hs2 : spot = none := by
          unfold Addr.add at hs
          split at hs <;> simp_all
        subst hs2
        refine ⟨_, b, off, cap, by rw [hlen], by rw [hlen]; unfold maxLen at hm; omega, fun _ => ⟨rfl, hblk 0 h0⟩, fun j hj => ?_, fun n hn => hbig n (List.mem_of_mem_take hn)⟩
        have hj2 : j < len := by omega
        have := hcell j (by omega)
        rw [Lib.add_plain] at this
        rw [this, List.getD_eq_getElem?_getD, List.getD_eq_getElem?_getD, List.getElem?_take, if_pos hj2]
    · rw [Rows.uptoBulk]
      have := bulk_len (lits (H := H) .u8 (zs.take len))
      rw [show (lits (H := H) .u8 (zs.take len)).length = (zs.take len).length by simp [lits]] at this
      omega
end Go.Proofs.YtiaollhiggeolaaDoor.La
