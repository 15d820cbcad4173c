/-
  CodecGets: which bytes are commands, replies and entries, and each has one form alone; at every input.
-/
import Derived.Test.YtpngbfmbjldieaaCodGetsW
import Derived.Test.YtpngbfmbjldieaaKindByt
import Derived.Test.YtpngbfmbjldieaaKindPost
import Derived.Test.YtpngbfmbjldieaaBulk
import Derived.SizedLaws
import Derived.ChangeSame
import Derived.JoinedOf
set_option linter.unusedVariables false
namespace Go.Proofs.Ytpngbfmbjldieaa.lawCodecGets
open Go.Lib Go.RowKit Go.ChangeShapes Go.WideShapes Go.ChangeAt Ly
open Go.ChangeMaps (open_string shut_string)

set_option maxRecDepth 100000 in
set_option maxHeartbeats 2000000 in
theorem lifted (os : Os) (started : os.Started) (H : Type) (enc : TypeId × Value → H) :
    ReturnsInHanded {} Try.checked os 3 .any (Rows.codecGetsSpec.pre6 enc Try.prog Try.f3 Rows.codecGetsRow.domain false) (Rows.codecGetsSpec.post enc Try.prog Try.f3 false true false false) := by
  refine returnsInHanded_of_change (C := Try.checked) La.own started (by kernel_rfl) Try.func3
    (ChangeSpec.witness6 (enc := enc) (C := Try.checked) false ⟨#[], #[.slice none 0 0], []⟩ 8 (by kernel_rfl) (by kernel_rfl) (by kernel_rfl) (by kernel_rfl)) ?_
  intro W base args ds gs before hval0 hW _ _
  have hval : ∀ (j : Nat) t v, Try.f3.params[j]? = some t → args[j]? = some v → Value.okWide Try.prog W .any base t v := hval0
  have hW' := hW
  obtain ⟨p, q, hA0, hV, rfl, _, _⟩ := hW
  have hA : DataW.TrodAll enc Try.prog W 0 (fun _ => true) true Try.f3.params.toList args.toList ds p := hA0
  rw [Try.params3] at hA hval
  obtain ⟨v0, d0, rfl, rfl, h0⟩ := trodAll_one hA
  obtain ⟨rfl, rfl⟩ := trodVars_none hV
  have hWlt := hW'.lt
  clear hA0 hval0
  obtain ⟨l0, lv0⟩ := Kc.byts_open (hval 0 22 v0 rfl rfl) h0
  refine (Ly.gets_walk W v0 l0 lv0).mono ?_
  rintro e W' ⟨rfl, bel⟩
  exact ⟨_, rfl, ⟨_, _, _, [], _, [], hW', trodAll_mk1 (shut_bool Try.underlying4 _), trodAll_mk1 (Below.trod La.laidOut (by kernel_rfl) (of_decide_eq_true (by kernel_rfl)) h0 bel (fun q hq => hWlt q (by simp [hq]))), rfl, bel.frame _, fun h => by cases h⟩⟩

theorem said : Rows.CodecGetsSaid :=
  OpenClaim.holds_of_wide 3 Try.f3 rfl rfl rfl rfl rfl rfl rfl ⟨rfl, rfl, rfl, rfl, rfl⟩ rfl rfl rfl rfl rfl (by kernel_rfl) Try.func3 (by kernel_rfl)
    (of_decide_eq_true (by kernel_rfl)) (by unfold Func.isWrapper; rw [if_neg (of_decide_eq_false (by kernel_rfl))]; exact ⟨rfl, rfl⟩)
    (fun os started H enc _ => lifted os started H enc)
end Go.Proofs.Ytpngbfmbjldieaa.lawCodecGets
