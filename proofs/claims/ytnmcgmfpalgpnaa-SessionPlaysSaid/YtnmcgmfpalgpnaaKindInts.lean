/-
  A PARAMETER OF TYPE []int: what its reading gives, and that it reads so again in each world that kept what there was.
-/
import Derived.Test.YtnmcgmfpalgpnaaBulk
import Derived.ChangeSame
import Derived.ChangeSlices
import Derived.Lib.Hide
import Derived.Lib.IndexLaws
import Derived.Shelf.Abstract
import Derived.Lib.ItoaMem
set_option linter.unusedVariables false
namespace Go.Proofs.Ytnmcgmfpalgpnaa.La
open Go.Lib Go.RowKit Go.Shelf Go.ChangeShapes Go.WideShapes Go.ChangeAt

theorem bulk_one {H : Type} (d : DataW H) : 1 ≤ Rows.uptoBulk d := by
  cases d with
  | lit l => cases l <;> simp [Rows.uptoBulk]
  | _ => simp [Rows.uptoBulk]
theorem bulk_len {H : Type} (l : List (DataW H)) : l.length ≤ Rows.uptoBulkAll l := by
  induction l with
  | nil => simp [Rows.uptoBulkAll]
  | cons d r ih => have := bulk_one d; simp [Rows.uptoBulkAll]; omega

variable {H : Type} {enc : TypeId × Value → H}

/-- what a []int that came in is -/
def IntsAt (W : World) (v : Value) (zs : List Int) : Prop :=
  ∃ (p0 : Option Addr) (b off cap : Nat), v = .slice p0 zs.length cap ∧ zs.length ≤ 9223372036854775807 ∧ (zs ≠ [] → p0 = some ⟨b, off, none⟩ ∧ b < W.heap.size) ∧
    (∀ j, j < zs.length → W.cell? ⟨b, off + j, none⟩ = some (.int .i64 (zs.getD j 0))) ∧ (∀ n ∈ zs, -9223372036854775808 ≤ n ∧ n ≤ 9223372036854775807)

theorem spot_none {W : World} {a : Addr} {v : Value} (h : W.cell? a = some v) : a.spot = none := by
  cases hs : a.spot with
  | none => rfl
  | some x =>
    exfalso
    unfold World.cell? at h
    rw [hs] at h
    split at h <;> simp at h
theorem add_block (a : Addr) (i : Nat) : (a.add i).block = a.block := by unfold Addr.add; split <;> rfl

theorem ints_open {base : Nat} {W : World} {v : Value} {d : DataW H} {ps : List MemPlace} (hval : Value.okWide Try.prog W .any base 47 v) (h : DataW.Trod enc Try.prog W 0 (fun _ => true) true 47 v d ps)
    (hlt : ∀ q ∈ ps, q.block < W.heap.size) :
    ∃ zs, IntsAt W v zs ∧ zs.length ≤ Rows.uptoBulk d ∧
      ∀ (W' : World) (sp : Nat → Bool), Below W.heap.size W W' → (∀ q ∈ ps, sp q.block = true) → DataW.Trod enc Try.prog W' 0 sp true 47 v d ps := by
  obtain ⟨a, len, cap, rfl⟩ := okWide_slice Try.underlying47 hval
  obtain ⟨fuel, hf⟩ := h
  have hce : Try.prog.cellsOf 3 = 1 := by kernel_rfl
  rcases open_ints Try.underlying47 Try.underlying3 hce hf with ⟨hcs, hx⟩ | ⟨a', len', cap', zs, hcs, _, hl, hm, hz, hx, hcell, hwz⟩
  · simp [Value.cells] at hcs
    obtain ⟨rfl, rfl, rfl⟩ := hcs
    simp only [Prod.mk.injEq] at hx
    obtain ⟨rfl, rfl⟩ := hx
    exact ⟨[], ⟨none, 0, 0, 0, rfl, by simp, fun h => absurd rfl h, fun j hj => absurd hj (Nat.not_lt_zero _), fun n hn => by simp at hn⟩, Nat.zero_le _,
      fun W' sp _ _ => ⟨1, by simp [DataW.trod, Value.cells, Try.underlying47]⟩⟩
  · simp [Value.cells] at hcs
    obtain ⟨rfl, rfl, rfl⟩ := hcs
    simp only [Prod.mk.injEq] at hx
    obtain ⟨rfl, rfl⟩ := hx
    simp only [if_true] at hz
    have hlen : (zs.take len).length = len := by rw [List.length_take]; omega
    have hbig : ∀ n ∈ zs, -9223372036854775808 ≤ n ∧ n ≤ 9223372036854775807 := fun n hn => bounds_i64 (hwz n hn)
    have hblk : ∀ i, i < zs.length → a'.block < W.heap.size := fun i hi => by rw [← add_block a' i]; exact World.block_lt_of_cell? W (a'.add i) (hcell i hi)
    refine ⟨zs.take len, ?_, ?_, ?_⟩
    · rcases Nat.eq_zero_or_pos zs.length with h0 | h0
      · have hl0 : len = 0 := by omega
        subst hl0
        exact ⟨_, 0, 0, cap, by rw [hlen], by rw [hlen]; omega, fun h => absurd (by simp) h, fun j hj => by simp at hj, fun n hn => by simp at hn⟩
      · have hs := spot_none (hcell 0 h0)
        obtain ⟨b, off, spot⟩ := a'
        have hs2 : spot = none := by
          unfold Addr.add at hs
          split at hs <;> simp_all
        subst hs2
        refine ⟨_, b, off, cap, by rw [hlen], by rw [hlen]; unfold maxLen at hm; omega, fun _ => ⟨rfl, hblk 0 h0⟩, fun j hj => ?_, fun n hn => hbig n (List.mem_of_mem_take hn)⟩
        have hj2 : j < len := by omega
        have := hcell j (by omega)
        rw [Lib.add_plain] at this
        rw [this, List.getD_eq_getElem?_getD, List.getD_eq_getElem?_getD, List.getElem?_take, if_pos hj2]
    · rw [Rows.uptoBulk]
      have := bulk_len (lits (H := H) .i64 (zs.take len))
      rw [show (lits (H := H) .i64 (zs.take len)).length = (zs.take len).length by simp [lits]] at this
      omega
    · intro W' sp hb hsp
      refine ⟨0 + 2, shut_ints 0 Try.underlying47 Try.underlying3 hce (Nat.zero_le _) hl hm ?_ (fun i hi => ?_) hwz⟩
      · rcases Nat.eq_zero_or_pos zs.length with h0 | h0
        · rw [h0] at hz ⊢
          split <;> omega
        · have := hsp (.cell a'.block (a'.off + 0)) (MemPlace.mem_row.2 ⟨0, h0, rfl⟩)
          have h2 : sp a'.block = true := this
          rw [if_pos h2]
          exact hz
      · have h1 := hblk i hi
        have h2 : (a'.add i).block < W.heap.size := World.block_lt_of_cell? W (a'.add i) (hcell i hi)
        rw [hb.cell h2]
        exact hcell i hi

/-- the last step of a row whose call left all that there was -/
theorem post_below {P : Program} {f : Func} {s : OpenSpec} {F : Stop.Interp} {apart fresh handsOn again : Bool} {W W' : World} {args : Array Value} {v : Value} {ds gs : List (DataW H)} {before pa pv : List MemPlace}
    (hW : DataW.Whole enc P f.params.toList s.vars apart W args.toList ds gs before)
    (hres : ∀ (b : Nat) (sp : Nat → Bool) (hd : Bool), DataW.TrodAll enc P W' b sp hd f.resultTypes.toList (v.resultList f.resultTypes.size) ((s.at F).fn H (ds ++ gs)).results [])
    (hargs : ∀ sp : Nat → Bool, (∀ p ∈ before, sp p.block = true) → DataW.TrodAll enc P W' 0 sp true f.params.toList args.toList ((s.at F).fn H (ds ++ gs)).args pa)
    (hvars : ∀ sp : Nat → Bool, (∀ p ∈ before, sp p.block = true) → DataW.TrodVars enc P W' sp s.vars ((s.at F).fn H (ds ++ gs)).vars pv)
    (hps : before = pa ++ pv) (hb : Below W.heap.size W W') (hag : again = false) :
    (s.at F).post enc P f apart fresh handsOn again W args v W' := by
  have hlt : ∀ p ∈ before, p.block < W.heap.size := fun p hp => hW.lt p hp
  have hold : ∀ p ∈ before, (fun b => decide (b < W.heap.size)) p.block = true := fun p hp => by simpa using hlt p hp
  subst hag
  exact ⟨ds, gs, before, [], pa, pv, hW, hres _ _ _, hargs _ hold, hvars _ hold, World.keptBut_mono (fun p hp => ⟨hp, by rw [hps, List.mem_append] at hp; exact Or.inr hp⟩) (hb.frame (· ∈ before)), fun h => by cases h⟩
end Go.Proofs.Ytnmcgmfpalgpnaa.La
