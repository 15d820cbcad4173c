/-
  CrcLinear: of three lists of bytes of one length, added bit by bit, the sum is that of their sums; at every input.
-/
import Derived.Test.YtpngbfmbjldieaaCrcLinearW
import Derived.Test.YtpngbfmbjldieaaKindByt
import Derived.Test.YtpngbfmbjldieaaKindPost
import Derived.Test.YtpngbfmbjldieaaBulk
import Derived.SizedLaws
import Derived.ChangeSame
import Derived.JoinedOf
set_option linter.unusedVariables false
namespace Go.Proofs.Ytpngbfmbjldieaa.lawCrcLinear
open Go.Lib Go.RowKit Go.ChangeShapes Go.WideShapes Go.ChangeAt Cr
open Go.ChangeMaps (open_string shut_string)

set_option maxRecDepth 100000 in
set_option maxHeartbeats 2000000 in
theorem lifted (os : Os) (started : os.Started) (H : Type) (enc : TypeId × Value → H) :
    ReturnsInHanded {} Try.checked os 7 .any (Rows.crcLinearSpec.pre6 enc Try.prog Try.f7 Rows.crcLinearRow.domain false) (Rows.crcLinearSpec.post enc Try.prog Try.f7 false true false false) := by
  refine returnsInHanded_of_change (C := Try.checked) La.own started (by kernel_rfl) Try.func7
    (ChangeSpec.witness6 (enc := enc) (C := Try.checked) false ⟨#[], #[.slice none 0 0, .slice none 0 0, .slice none 0 0], []⟩ 8 (by kernel_rfl) (by kernel_rfl) (by kernel_rfl) (by kernel_rfl)) ?_
  intro W base args ds gs before hval0 hW _ _
  have hval : ∀ (j : Nat) t v, Try.f7.params[j]? = some t → args[j]? = some v → Value.okWide Try.prog W .any base t v := hval0
  have hW' := hW
  obtain ⟨p, q, hA0, hV, rfl, _, _⟩ := hW
  have hA : DataW.TrodAll enc Try.prog W 0 (fun _ => true) true Try.f7.params.toList args.toList ds p := hA0
  rw [Try.params7] at hA hval
  obtain ⟨v0, v1, v2, d0, d1, d2, p0, p1, p2, rfl, rfl, rfl, h0, h1, h2⟩ := trodAll_three hA
  obtain ⟨rfl, rfl⟩ := trodVars_none hV
  have hWlt := hW'.lt
  clear hA0 hval0
  obtain ⟨l0, lv0⟩ := Kc.byts_open (hval 0 22 v0 rfl rfl) h0
  obtain ⟨l1, lv1⟩ := Kc.byts_open (hval 1 22 v1 rfl rfl) h1
  obtain ⟨l2, lv2⟩ := Kc.byts_open (hval 2 22 v2 rfl rfl) h2
  refine (Cr.linear_walk W v0 v1 v2 l0 l1 l2 lv0 lv1 lv2).mono ?_
  rintro e W' ⟨rfl, bel⟩
  exact ⟨_, rfl, ⟨_, _, _, [], _, [], hW', trodAll_mk1 (shut_bool Try.underlying4 _), trodAll_mk3 (Below.trod La.laidOut (by kernel_rfl) (of_decide_eq_true (by kernel_rfl)) h0 bel (fun q hq => hWlt q (by simp [hq]))) (Below.trod La.laidOut (by kernel_rfl) (of_decide_eq_true (by kernel_rfl)) h1 bel (fun q hq => hWlt q (by simp [hq]))) (Below.trod La.laidOut (by kernel_rfl) (of_decide_eq_true (by kernel_rfl)) h2 bel (fun q hq => hWlt q (by simp [hq]))), rfl, bel.frame _, fun h => by cases h⟩⟩

theorem said : Rows.CrcLinearSaid :=
  OpenClaim.holds_of_wide 7 Try.f7 rfl rfl rfl rfl rfl rfl rfl ⟨rfl, rfl, rfl, rfl, rfl⟩ rfl rfl rfl rfl rfl (by kernel_rfl) Try.func7 (by kernel_rfl)
    (of_decide_eq_true (by kernel_rfl)) (by unfold Func.isWrapper; rw [if_neg (of_decide_eq_false (by kernel_rfl))]; exact ⟨rfl, rfl⟩)
    (fun os started H enc _ => lifted os started H enc)
end Go.Proofs.Ytpngbfmbjldieaa.lawCrcLinear
