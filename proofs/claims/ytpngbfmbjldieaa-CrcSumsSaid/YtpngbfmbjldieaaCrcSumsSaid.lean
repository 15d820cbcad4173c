/-
  CrcSums: what the sum of every bytes is, however they are parted; at every input.
-/
import Derived.Test.YtpngbfmbjldieaaCrcSumsW
import Derived.Test.YtpngbfmbjldieaaKindByt
import Derived.Test.YtpngbfmbjldieaaKindPost
import Derived.Test.YtpngbfmbjldieaaBulk
import Derived.SizedLaws
import Derived.ChangeSame
import Derived.JoinedOf
set_option linter.unusedVariables false
namespace Go.Proofs.Ytpngbfmbjldieaa.lawCrcSums
open Go.Lib Go.RowKit Go.ChangeShapes Go.WideShapes Go.ChangeAt Cr
open Go.ChangeMaps (open_string shut_string)

set_option maxRecDepth 100000 in
set_option maxHeartbeats 2000000 in
theorem lifted (os : Os) (started : os.Started) (H : Type) (enc : TypeId × Value → H) :
    ReturnsInHanded {} Try.checked os 5 .any (Rows.crcSumsSpec.pre6 enc Try.prog Try.f5 Rows.crcSumsRow.domain false) (Rows.crcSumsSpec.post enc Try.prog Try.f5 false true false false) := by
  refine returnsInHanded_of_change (C := Try.checked) La.own started (by kernel_rfl) Try.func5
    (ChangeSpec.witness6 (enc := enc) (C := Try.checked) false ⟨#[], #[.slice none 0 0, .int .i64 0], []⟩ 8 (by kernel_rfl) (by kernel_rfl) (by kernel_rfl) (by kernel_rfl)) ?_
  intro W base args ds gs before hval0 hW _ _
  have hval : ∀ (j : Nat) t v, Try.f5.params[j]? = some t → args[j]? = some v → Value.okWide Try.prog W .any base t v := hval0
  have hW' := hW
  obtain ⟨p, q, hA0, hV, rfl, _, _⟩ := hW
  have hA : DataW.TrodAll enc Try.prog W 0 (fun _ => true) true Try.f5.params.toList args.toList ds p := hA0
  rw [Try.params5] at hA hval
  obtain ⟨v0, v1, d0, d1, p0, p1, rfl, rfl, rfl, h0, h1⟩ := trodAll_two hA
  obtain ⟨rfl, rfl⟩ := trodVars_none hV
  have hWlt := hW'.lt
  clear hA0 hval0
  obtain ⟨l0, lv0⟩ := Kc.byts_open (hval 0 22 v0 rfl rfl) h0
  obtain ⟨s1, rfl, rfl, rfl, ws1⟩ := open_int Try.underlying3 (hval 1 3 v1 rfl rfl) h1
  refine (Cr.sums_walk W v0 l0 s1 lv0).mono ?_
  rintro e W' ⟨rfl, bel⟩
  exact ⟨_, rfl, ⟨_, _, _, [], _, [], hW', trodAll_mk1 (shut_bool Try.underlying4 _), trodAll_mk2 (Below.trod La.laidOut (by kernel_rfl) (of_decide_eq_true (by kernel_rfl)) h0 bel (fun q hq => hWlt q (by simp [hq]))) (shut_int Try.underlying3 ws1), rfl, bel.frame _, fun h => by cases h⟩⟩

theorem said : Rows.CrcSumsSaid :=
  OpenClaim.holds_of_wide 5 Try.f5 rfl rfl rfl rfl rfl rfl rfl ⟨rfl, rfl, rfl, rfl, rfl⟩ rfl rfl rfl rfl rfl (by kernel_rfl) Try.func5 (by kernel_rfl)
    (of_decide_eq_true (by kernel_rfl)) (by unfold Func.isWrapper; rw [if_neg (of_decide_eq_false (by kernel_rfl))]; exact ⟨rfl, rfl⟩)
    (fun os started H enc _ => lifted os started H enc)
end Go.Proofs.Ytpngbfmbjldieaa.lawCrcSums
