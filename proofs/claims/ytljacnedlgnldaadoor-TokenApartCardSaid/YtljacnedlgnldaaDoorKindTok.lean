/-
  PARAMETERS OF TYPE api.Token AND [2]int: what their readings give; the last step of a row whose call left all that there was.
-/
import Derived.Test.YtljacnedlgnldaaDoorLaidP
import Derived.Lib.SmallJoins
import Derived.WideKeyArr2
import Derived.ChangeSame
import Derived.OpenShut
import Derived.SizedLaws
import Derived.Carry
import Derived.Deep.DeepHandedRow
set_option linter.unusedVariables false
namespace Go.Proofs.YtljacnedlgnldaaDoor.La
open Go.Lib Go.RowKit Go.Shelf Go.ChangeShapes Go.WideShapes Go.ChangeAt Go.WideMaps

theorem laidOut : laidOutB Tryd.prog = true := by kernel_rfl
variable {H : Type} {enc : TypeId × Value → H}
theorem tok_open {base : Nat} {W : World} {v : Value} {d : DataW H} {ps : List MemPlace} (hval : Value.okWide Tryd.prog W .any base 23 v) (h : DataW.Trod enc Tryd.prog W 0 (fun _ => true) true 23 v d ps) :
    ∃ b a : Int, v = .agg #[.int .i64 b, .int .i64 a] ∧ (Lit.int .i64 b).wf = true ∧ (Lit.int .i64 a).wf = true := by
  obtain ⟨v0, v1, y0, y1, n, rfl, rfl, rfl, h0, h1⟩ := Go.Joins.open_agg2 Tryd.underlying23 (by kernel_rfl) (by kernel_rfl) hval h
  obtain ⟨b, e0, x0, wf0⟩ := DataW.trod_int Tryd.underlying3 h0
  obtain ⟨a, e1, x1, wf1⟩ := DataW.trod_int Tryd.underlying3 h1
  simp at e0 e1
  subst e0; subst e1
  exact ⟨b, a, rfl, wf0, wf1⟩
theorem arr2i : ArrKey Tryd.prog 33 3 2 := ⟨Tryd.underlying33, by kernel_rfl, by kernel_rfl, by kernel_rfl⟩
theorem ends_open {base : Nat} {W : World} {v : Value} {d : DataW H} {ps : List MemPlace} (hval : Value.okWide Tryd.prog W .any base 33 v) (h : DataW.Trod enc Tryd.prog W 0 (fun _ => true) true 33 v d ps) :
    ∃ x y : Int, v = .agg #[.int .i64 x, .int .i64 y] := by
  obtain ⟨xs, rfl, hn⟩ := okWide_arr arr2i hval
  obtain ⟨c0, c1, rfl⟩ : ∃ c0 c1, xs = #[c0, c1] := ⟨xs[0]'(by omega), xs[1]'(by omega), Array.ext (by simp [hn]) (fun i h1 h2 => by
    match i, h1 with
    | 0, _ => rfl
    | 1, _ => rfl
    | i + 2, h1 => exact absurd h1 (by omega))⟩
  obtain ⟨fuel, hf⟩ := h
  obtain ⟨ys, m, _, hx, _, hl, hi⟩ := DataW.trod_array Tryd.underlying33 hf
  have hce : Tryd.prog.cellsOf 3 = 1 := arr2i.one
  rw [hce] at hi
  match ys, hl with
  | [y0, y1], _ =>
    have h0 := hi 0 (by omega)
    have h1 := hi 1 (by omega)
    simp [Value.cells] at h0 h1
    obtain ⟨s0, e0, x0, _⟩ := DataW.trod_int Tryd.underlying3 h0
    obtain ⟨s1, e1, x1, _⟩ := DataW.trod_int Tryd.underlying3 h1
    simp at e0 e1
    subst e0; subst e1
    exact ⟨s0, s1, rfl⟩
/-- the last step of a row whose call left all that there was -/
theorem post_left {P : Program} {f : Func} {s : OpenSpec} {F : Stop.Interp} {apart fresh handsOn again : Bool} {W W' : World} {args : Array Value} {v : Value} {ds gs : List (DataW H)} {before pa pv : List MemPlace}
    (hW : DataW.Whole enc P f.params.toList s.vars apart W args.toList ds gs before)
    (hres : ∀ (b : Nat) (sp : Nat → Bool) (hd : Bool), DataW.TrodAll enc P W' b sp hd f.resultTypes.toList (v.resultList f.resultTypes.size) ((s.at F).fn H (ds ++ gs)).results [])
    (hargs : DataW.TrodAll enc P W' 0 (fun b => decide (b < W.heap.size)) true f.params.toList args.toList ((s.at F).fn H (ds ++ gs)).args pa)
    (hvars : DataW.TrodVars enc P W' (fun b => decide (b < W.heap.size)) s.vars ((s.at F).fn H (ds ++ gs)).vars pv)
    (hps : before = pa ++ pv) (hb : Below W.heap.size W W') (hag : again = false) :
    (s.at F).post enc P f apart fresh handsOn again W args v W' := by
  subst hag
  exact ⟨ds, gs, before, [], pa, pv, hW, hres _ _ _, hargs, hvars, World.keptBut_mono (fun p hp => ⟨hp, by rw [hps, List.mem_append] at hp; exact Or.inr hp⟩) (hb.frame (· ∈ before)), fun h => by cases h⟩
end Go.Proofs.YtljacnedlgnldaaDoor.La
