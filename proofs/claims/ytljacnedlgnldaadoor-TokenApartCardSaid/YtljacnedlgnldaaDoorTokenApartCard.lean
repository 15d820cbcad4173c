/-
  THE LAW TokenApart, tied: whatever two tokens and text, it answers true; its arguments read as they did.
-/
import Derived.Test.YtljacnedlgnldaaDoorTokApart
import Derived.Test.YtljacnedlgnldaaDoorTokCode
import Derived.Test.YtljacnedlgnldaaDoorKindTok
set_option linter.unusedVariables false
namespace Go.Proofs.YtljacnedlgnldaaDoor.lawTokenApart
open Go.Lib Go.RowKit Go.Shelf Go.ChangeShapes Go.WideShapes Go.ChangeAt To
open Go.ChangeMaps (open_string shut_string)

theorem laid_tabs {W : World} (hL : laidMetH Tryd.prog Rows.tokenApartRow.laid W) : Ch.Pow W :=
  La.pow_of (La.pow_eq ▸ Lib.laidMet.reads hL (.tail _ (.tail _ (.head _))))
/-- A world for the witness: the settled one, the tables holding what their initialisers lay. -/
noncomputable def laidWorld (os : Os) : World :=
  let w0 := World.holding Tryd.prog os ⟨#[], #[], []⟩
  let put (h : Array Obj) (g : Nat) (cs : Array Value) : Array Obj := h.modify g fun
    | .cells _ t frozen => .cells cs t frozen
    | o => o
  let h3 := put w0.heap 1 (Lib.pow10Tab.map fun z => Value.int .u64 z).toArray
  let h4 := put h3 2 (La.de32.map fun z => Value.int .u8 z).toArray
  let h5 := put h4 3 (La.de64.map fun z => Value.int .u8 z).toArray
  { w0 with heap := h5 }
theorem laid_met (os : Os) (args : Array Value) : laidMet Tryd.prog Rows.tokenApartRow.laid ((laidWorld os).forCall (fun _ _ => 0) ⟨#[], args, []⟩).memory :=
  (LaidIn.of_run (l := Rows.tokenApartRow.laid) [2, 3, 1] 8 (by kernel_rfl) (by kernel_rfl) (by kernel_rfl) (by kernel_rfl)).met

theorem witness_row (os : Os) {H : Type} (enc : TypeId × Value → H) :
    (OpenSpec.ofChange Rows.tokenApartSpec).preRow enc Tryd.prog Tryd.f6 Rows.tokenApartRow.domain false Rows.tokenApartRow.laid ((laidWorld os).forCall (fun _ _ => 0) ⟨#[], #[.agg #[.int .i64 0, .int .i64 0], .agg #[.int .i64 0, .int .i64 0], .string ⟨#[]⟩], []⟩).memory #[.agg #[.int .i64 0, .int .i64 0], .agg #[.int .i64 0, .int .i64 0], .string ⟨#[]⟩] := by
  have hw : (DataW.whole enc Tryd.prog ((laidWorld os).forCall (fun _ _ => 0) ⟨#[], #[.agg #[.int .i64 0, .int .i64 0], .agg #[.int .i64 0, .int .i64 0], .string ⟨#[]⟩], []⟩).memory Tryd.f6.params.toList Rows.tokenApartSpec.vars false (#[Value.agg #[.int .i64 0, .int .i64 0], Value.agg #[.int .i64 0, .int .i64 0], Value.string ⟨#[]⟩] : Array Value).toList 8).map (fun x => (x.1, x.2.1)) =
      some ([.agg [.lit (.int .i64 0), .lit (.int .i64 0)], .agg [.lit (.int .i64 0), .lit (.int .i64 0)], .lit (.string [])], []) := by kernel_rfl
  obtain ⟨⟨x1, x2, x3⟩, hx, hx1⟩ := Option.map_eq_some_iff.1 hw
  simp only [Prod.mk.injEq] at hx1
  obtain ⟨rfl, rfl⟩ := hx1
  exact OpenSpec.preRow_of_cond 8 hx (by kernel_rfl) (fun k hk => by cases hk) (by kernel_rfl) (laid_met os _)

set_option maxRecDepth 100000 in
set_option maxHeartbeats 2000000 in
theorem lifted (os : Os) (started : os.Started) (H : Type) (enc : TypeId × Value → H) (F : Stop.Interp) :
    ReturnsInHanded {} Tryd.checked os 6 .any ((OpenSpec.ofChange Rows.tokenApartSpec).preRow enc Tryd.prog Tryd.f6 Rows.tokenApartRow.domain false Rows.tokenApartRow.laid) (((OpenSpec.ofChange Rows.tokenApartSpec).at F).post enc Tryd.prog Tryd.f6 false true false false) := by
  refine returnsInHanded_of_row (C := Tryd.checked) (s := (OpenSpec.ofChange Rows.tokenApartSpec)) La.own started (by kernel_rfl) Tryd.func6
    (witness_row_atRef (enc := enc) (C := Tryd.checked) false (laidWorld os) #[.agg #[.int .i64 0, .int .i64 0], .agg #[.int .i64 0, .int .i64 0], .string ⟨#[]⟩] rfl (by kernel_rfl) (by kernel_rfl) (by kernel_rfl) (witness_row os enc)) ?_
  intro W base args ds gs before hval0 hW _ hcond hsz hL hsh _
  have hval : ∀ (j : Nat) t v, Tryd.f6.params[j]? = some t → args[j]? = some v → Value.okWide Tryd.prog W .any base t v := hval0
  have hW' := hW
  obtain ⟨p, q, hA0, hV0, rfl, _, _⟩ := hW
  have hA : DataW.TrodAll enc Tryd.prog W 0 (fun _ => true) true Tryd.f6.params.toList args.toList ds p := hA0
  rw [Tryd.params6] at hA hval
  obtain ⟨v0, v1, v2, d0, d1, d2, p0, p1, p2, rfl, rfl, rfl, h0, h1, h2⟩ := trodAll_three hA
  obtain ⟨rfl, rfl⟩ := trodVars_none hV0
  have hWlt := hW'.lt
  obtain ⟨b0, a0, rfl, wb0, wa0⟩ := La.tok_open (hval 0 23 v0 rfl rfl) h0
  obtain ⟨b1, a1, rfl, wb1, wa1⟩ := La.tok_open (hval 1 23 v1 rfl rfl) h1
  obtain ⟨s2, rfl, rfl, rfl, ws2⟩ := open_string Tryd.underlying9 (hval 2 9 v2 rfl rfl) h2
  have r2 : s2.data.toList.length ≤ reachBytes := sized_string (j := 2) (t := 9) hsz rfl rfl
  clear hA0 hV0 hval0 hsz
  refine (apart_walk print_any parse_any b0 a0 b1 a1 s2 W (bounds_i64 wb0) (bounds_i64 wa0) (bounds_i64 wb1) (bounds_i64 wa1) (by rw [Lib.size_eq]; have h : s2.data.toList.length ≤ 140737488351232 := r2; omega) (laid_tabs hL)).mono ?_
  rintro e W' ⟨rfl, bel⟩
  have e1 : ((OpenSpec.ofChange Rows.tokenApartSpec).at F).fn H ([d0, d1, .lit (.string s2.data.toList)] ++ []) = { results := [.lit (.bool true)], args := [d0, d1, .lit (.string s2.data.toList)] } := rfl
  refine ⟨_, rfl, La.post_left (pa := p0 ++ (p1 ++ ([]))) (pv := []) hW' ?_ ?_ ?_ (by simp) bel rfl⟩
  · intro b sp hd; rw [e1]; exact trodAll_mk1 (shut_bool Tryd.underlying4 _)
  · rw [e1]; exact trodAll_mk3 (Below.trod La.laidOut (by kernel_rfl) (of_decide_eq_true (by kernel_rfl)) h0 bel (fun q hq => hWlt q (by simp [hq]))) (Below.trod La.laidOut (by kernel_rfl) (of_decide_eq_true (by kernel_rfl)) h1 bel (fun q hq => hWlt q (by simp [hq]))) (shut_string Tryd.underlying9 ws2)
  · rw [e1]; rfl

theorem said : Rows.TokenApartSaid :=
  OpenClaim.holds_of_cond 6 Tryd.f6 rfl rfl rfl rfl rfl rfl rfl ⟨rfl, rfl, rfl, rfl, rfl⟩ rfl rfl rfl rfl rfl (by kernel_rfl) Tryd.func6 (by kernel_rfl)
    (of_decide_eq_true (by kernel_rfl)) (by unfold Func.isWrapper; rw [if_neg (of_decide_eq_false (by kernel_rfl))]; exact ⟨rfl, rfl⟩)
    (fun os started H enc _ F => by rw [OpenClaim.pre_eq_preRow]; exact lifted os started H enc F)

/-- No parameter wants a stand-in; the program's own looks are off. -/
theorem plain (f : FuncId) (fn : Func) (hf : Tryd.pinned.checked.prog.funcNamed Rows.tokenApartRow.func = some f) (hfn : Tryd.pinned.checked.prog.funcs[f]? = some fn) :
    false = Tryd.pinned.checked.prog.looks [] ∧ ∀ (j : Nat) t, fn.params[j]? = some t → Tryd.pinned.checked.prog.wantsStandIn t = false := by
  obtain rfl : f = 6 := Option.some.inj ((show Tryd.prog.funcNamed Rows.tokenApartRow.func = some 6 by kernel_rfl).symm.trans hf) |>.symm
  obtain rfl : fn = Tryd.f6 := (Option.some.inj (Tryd.func6.symm.trans hfn)).symm
  refine ⟨by kernel_rfl, fun j t ht => ?_⟩
  rw [Tryd.params6] at ht
  have ht' : t = 23 ∨ t = 23 ∨ t = 9 := by simpa using Array.mem_of_getElem? ht
  rcases ht' with rfl | rfl | rfl
  · exact (show Tryd.prog.wantsStandIn 23 = false by kernel_rfl)
  · exact (show Tryd.prog.wantsStandIn 23 = false by kernel_rfl)
  · exact (show Tryd.prog.wantsStandIn 9 = false by kernel_rfl)

theorem card : Rows.TokenApartCardSaid :=
  Claim7.holds_tied_plain_at .later [] _ _ _ _ said (fun _ h => by cases h) (by kernel_rfl) (fun _ h => by cases h) tokenApart_row_tie rfl ⟨rfl, rfl⟩ (by kernel_rfl) rfl plain (by kernel_rfl)
end Go.Proofs.YtljacnedlgnldaaDoor.lawTokenApart
