/-
  A PARAMETER OF TYPE [2]string: what its reading gives; the last step of a row whose call left all that there was.
-/
import Derived.Test.YtolnlhpaaomplaaDoorLaidV
import Derived.WideKeyArr2
import Derived.ChangeSame
import Derived.OpenShut
import Derived.SizedLaws
import Derived.Carry
import Derived.Deep.DeepHandedRow
set_option linter.unusedVariables false
namespace Go.Proofs.YtolnlhpaaomplaaDoor.La
open Go.Lib Go.RowKit Go.Shelf Go.ChangeShapes Go.WideShapes Go.ChangeAt Go.WideMaps

theorem laidOut : laidOutB Tryd.prog = true := by kernel_rfl
theorem arr2 : ArrKey Tryd.prog 36 9 2 := ⟨Tryd.underlying36, by kernel_rfl, by kernel_rfl, by kernel_rfl⟩
variable {H : Type} {enc : TypeId × Value → H}
theorem two_open {base : Nat} {W : World} {v : Value} {d : DataW H} {ps : List MemPlace} (hval : Value.okWide Tryd.prog W .any base 36 v) (h : DataW.Trod enc Tryd.prog W 0 (fun _ => true) true 36 v d ps) :
    ∃ x y : ByteArray, v = .agg #[.string x, .string y] ∧ d = .agg [.lit (.string x.data.toList), .lit (.string y.data.toList)] ∧ ps = [] := by
  obtain ⟨xs, rfl, hn⟩ := okWide_arr arr2 hval
  obtain ⟨c0, c1, rfl⟩ : ∃ c0 c1, xs = #[c0, c1] := ⟨xs[0]'(by omega), xs[1]'(by omega), Array.ext (by simp [hn]) (fun i h1 h2 => by
    match i, h1 with
    | 0, _ => rfl
    | 1, _ => rfl
    | i + 2, h1 => exact absurd h1 (by omega))⟩
  obtain ⟨fuel, hf⟩ := h
  obtain ⟨ys, m, _, hx, _, hl, hi⟩ := DataW.trod_array Tryd.underlying36 hf
  have hce : Tryd.prog.cellsOf 9 = 1 := arr2.one
  rw [hce] at hi
  match ys, hl with
  | [y0, y1], _ =>
    have h0 := hi 0 (by omega)
    have h1 := hi 1 (by omega)
    simp [Value.cells] at h0 h1
    obtain ⟨s0, e0, x0, _⟩ := DataW.trod_string Tryd.underlying9 h0
    obtain ⟨s1, e1, x1, _⟩ := DataW.trod_string Tryd.underlying9 h1
    simp at e0 e1
    subst e0; subst e1
    simp only [Prod.mk.injEq] at hx
    refine ⟨s0, s1, rfl, ?_, ?_⟩
    · rw [hx.1]; simp [x0, x1]
    · rw [hx.2]; simp [x0, x1]
theorem weightsAll_mem {P : Program} {e : TypeId} : ∀ {l : List (DataW H)} {d : DataW H}, d ∈ l → ∀ n ∈ d.weights P e, n ∈ DataW.weightsAll P e l
  | d' :: r, d, hd, n, hn => by
    simp only [DataW.weightsAll, List.mem_append]
    rcases List.mem_cons.1 hd with rfl | h
    · exact Or.inl hn
    · exact Or.inr (weightsAll_mem h n hn)
theorem two_sized {ts : List TypeId} {ds : List (DataW H)} (h : (DataW.weightsEach Tryd.prog ts ds).all (· ≤ reachBytes) = true) {j : Nat} {d : DataW H} {a b : List UInt8} (ht : ts[j]? = some 36) (hd : ds[j]? = some d) (he : d = .agg [.lit (.string a), .lit (.string b)]) :
    a.length ≤ reachBytes ∧ b.length ≤ reachBytes := by
  subst he
  have key : ∀ n, n ∈ [a.length, b.length] → n ≤ reachBytes := fun n hn => of_decide_eq_true (List.all_eq_true.1 h _ (DataW.weights_mem_each ht hd _ (by
    simp only [DataW.weights, Tryd.underlying36, DataW.weightsAll, List.append_nil]
    simpa using hn)))
  exact ⟨key _ (by simp), key _ (by simp)⟩

/-- the last step of a row whose call left all that there was -/
theorem post_left {P : Program} {f : Func} {s : OpenSpec} {F : Stop.Interp} {apart fresh handsOn again : Bool} {H : Type} {enc : TypeId × Value → H} {W W' : World} {args : Array Value} {v : Value} {ds gs : List (DataW H)} {before pa pv : List MemPlace}
    (hW : DataW.Whole enc P f.params.toList s.vars apart W args.toList ds gs before)
    (hres : ∀ (b : Nat) (sp : Nat → Bool) (hd : Bool), DataW.TrodAll enc P W' b sp hd f.resultTypes.toList (v.resultList f.resultTypes.size) ((s.at F).fn H (ds ++ gs)).results [])
    (hargs : DataW.TrodAll enc P W' 0 (fun b => decide (b < W.heap.size)) true f.params.toList args.toList ((s.at F).fn H (ds ++ gs)).args pa)
    (hvars : DataW.TrodVars enc P W' (fun b => decide (b < W.heap.size)) s.vars ((s.at F).fn H (ds ++ gs)).vars pv)
    (hps : before = pa ++ pv) (hb : Below W.heap.size W W') (hag : again = false) :
    (s.at F).post enc P f apart fresh handsOn again W args v W' := by
  subst hag
  exact ⟨ds, gs, before, [], pa, pv, hW, hres _ _ _, hargs, hvars, World.keptBut_mono (fun p hp => ⟨hp, by rw [hps, List.mem_append] at hp; exact Or.inr hp⟩) (hb.frame (· ∈ before)), fun h => by cases h⟩
end Go.Proofs.YtolnlhpaaomplaaDoor.La
