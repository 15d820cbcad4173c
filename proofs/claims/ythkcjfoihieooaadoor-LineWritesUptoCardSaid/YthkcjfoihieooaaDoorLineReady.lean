/-
  WHAT THE BULK OF A LINE GIVES TO THE WALKS; the last step of a row whose call left all that there was.
-/
import Derived.Test.YthkcjfoihieooaaDoorKindLine
import Derived.Test.YthkcjfoihieooaaDoorLineParts
set_option linter.unusedVariables false
namespace Go.Proofs.YthkcjfoihieooaaDoor.La
open Go.Lib Go.RowKit Go.Shelf Go.ChangeShapes Go.WideShapes Go.ChangeAt Li

theorem laidOut : laidOutB Tryd.prog = true := by kernel_rfl
theorem smallL {L : LD} (h : bulkL L ≤ 1048576) : SmallL L := by
  unfold bulkL at h
  refine ⟨by omega, by omega, by omega, fun p hp => ?_⟩
  have h1 := bulkPs_mem hp
  unfold bulkP at h1
  refine ⟨by omega, fun v hv => ?_⟩
  have h2 := bulkV_mem hv
  omega
theorem paramsL {L : LD} (h : bulkL L ≤ 1048576) : L.params.length ≤ 549755813888 := by
  have := bulkPs_len L.params
  unfold bulkL at h
  omega
theorem valsL {L : LD} (h : bulkL L ≤ 1048576) : ∀ p ∈ L.params, p.vals.length ≤ 8796093022208 := fun p hp => by
  have h1 := bulkPs_mem hp
  have h2 := bulkV_len p.vals
  unfold bulkP at h1
  unfold bulkL at h
  omega
theorem prL {L : LD} (h : bulkL L ≤ 1048576) : (pr L).length ≤ 549755813888 := by
  have := pr_bulk L
  omega
theorem prM {L : LD} {n v : ByteArray} (h : bulkL L ≤ 1048576) (hn : n.size ≤ 1048576) (hv : v.size ≤ 1048576) : (pr (addP L ⟨n.data.toList, [v.data.toList]⟩)).length ≤ 1099511627776 := by
  have h1 := pr_bulk (addP L ⟨n.data.toList, [v.data.toList]⟩)
  have h2 : bulkL (addP L ⟨n.data.toList, [v.data.toList]⟩) = bulkL L + (n.size + 1 + (v.size + 1)) := by
    unfold bulkL addP bulkPs
    rw [Lib.size_eq, Lib.size_eq]
    simp only [List.map_append, List.sum_append, List.map_cons, List.map_nil, List.sum_cons, List.sum_nil, bulkP, bulkV]
    omega
  omega

/-- the last step of a row whose call left all that there was -/
theorem post_left {P : Program} {f : Func} {s : OpenSpec} {F : Stop.Interp} {apart fresh handsOn again : Bool} {H : Type} {enc : TypeId × Value → H} {W W' : World} {args : Array Value} {v : Value} {ds gs : List (DataW H)} {before pa pv : List MemPlace}
    (hW : DataW.Whole enc P f.params.toList s.vars apart W args.toList ds gs before)
    (hres : ∀ (b : Nat) (sp : Nat → Bool) (hd : Bool), DataW.TrodAll enc P W' b sp hd f.resultTypes.toList (v.resultList f.resultTypes.size) ((s.at F).fn H (ds ++ gs)).results [])
    (hargs : DataW.TrodAll enc P W' 0 (fun b => decide (b < W.heap.size)) true f.params.toList args.toList ((s.at F).fn H (ds ++ gs)).args pa)
    (hvars : DataW.TrodVars enc P W' (fun b => decide (b < W.heap.size)) s.vars ((s.at F).fn H (ds ++ gs)).vars pv)
    (hps : before = pa ++ pv) (hb : Below W.heap.size W W') (hag : again = false) :
    (s.at F).post enc P f apart fresh handsOn again W args v W' := by
  subst hag
  have hsp : (fun b => decide (b < W.heap.size)) = (fun b => decide (b < W.heap.size)) := rfl
  exact ⟨ds, gs, before, [], pa, pv, hW, hres _ _ _, hargs, hvars, World.keptBut_mono (fun p hp => ⟨hp, by rw [hps, List.mem_append] at hp; exact Or.inr hp⟩) (hb.frame (· ∈ before)), fun h => by cases h⟩
end Go.Proofs.YthkcjfoihieooaaDoor.La
