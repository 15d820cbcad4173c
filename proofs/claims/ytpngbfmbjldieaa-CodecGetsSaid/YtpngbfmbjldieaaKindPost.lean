/-
  WHAT A CARD ASKS BEHIND A WALK that leaves all there was (any kinds of parameters; for a seat without tables, beside Bulk).
-/
import Derived.Test.YtpngbfmbjldieaaProg
import Derived.Test.YtpngbfmbjldieaaRowB
import Derived.ChangeSame
import Derived.ChangeSlices
import Derived.Carry
import Derived.Below
import Derived.KernelRfl
set_option linter.unusedVariables false
namespace Go.Proofs.Ytpngbfmbjldieaa.La
open Go.Lib Go.RowKit Go.ChangeShapes Go.WideShapes

theorem post_left {P : Program} {f : Func} {s : OpenSpec} {F : Stop.Interp} {apart fresh handsOn again : Bool} {H : Type} {enc : TypeId × Value → H} {W W' : World} {args : Array Value} {v : Value} {ds gs : List (DataW H)} {before pa pv : List MemPlace}
    (hW : DataW.Whole enc P f.params.toList s.vars apart W args.toList ds gs before)
    (hres : ∀ (b : Nat) (sp : Nat → Bool) (hd : Bool), DataW.TrodAll enc P W' b sp hd f.resultTypes.toList (v.resultList f.resultTypes.size) ((s.at F).fn H (ds ++ gs)).results [])
    (hargs : DataW.TrodAll enc P W' 0 (fun b => decide (b < W.heap.size)) true f.params.toList args.toList ((s.at F).fn H (ds ++ gs)).args pa)
    (hvars : DataW.TrodVars enc P W' (fun b => decide (b < W.heap.size)) s.vars ((s.at F).fn H (ds ++ gs)).vars pv)
    (hps : before = pa ++ pv) (hb : Below W.heap.size W W') (hag : again = false) :
    (s.at F).post enc P f apart fresh handsOn again W args v W' := by
  subst hag
  exact ⟨ds, gs, before, [], pa, pv, hW, hres _ _ _, hargs, hvars, World.keptBut_mono (fun p hp => ⟨hp, by rw [hps, List.mem_append] at hp; exact Or.inr hp⟩) (hb.frame (· ∈ before)), fun h => by cases h⟩
end Go.Proofs.Ytpngbfmbjldieaa.La
