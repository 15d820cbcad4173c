/-
  CodecApart, second form: a command turned in any one field has other bytes, and they are got back; where the arguments are of bulk at most 2^20.
-/
import Derived.Test.YtpngbfmbjldieaaCodApartW
import Derived.Test.YtpngbfmbjldieaaKindCod
import Derived.Test.YtpngbfmbjldieaaKindPost
import Derived.Test.YtpngbfmbjldieaaBulk
set_option linter.unusedVariables false
namespace Go.Proofs.Ytpngbfmbjldieaa.lawCodecApart
open Go.Lib Go.RowKit Go.ChangeShapes Go.WideShapes Go.ChangeAt Ly
open Go.ChangeMaps (open_string shut_string)

set_option maxRecDepth 100000 in
set_option maxHeartbeats 2000000 in
theorem lifted (os : Os) (started : os.Started) (H : Type) (enc : TypeId × Value → H) (F : Stop.Interp) :
    ReturnsInHanded {} Try.checked os 4 .any ((Rows.OpenSpec.upto Rows.codecApartSpec).pre6 enc Try.prog Try.f4 Rows.codecApartUptoRow.domain false) (((Rows.OpenSpec.upto Rows.codecApartSpec).at F).post enc Try.prog Try.f4 false true false false) := by
  refine returnsInHanded_of_cond (C := Try.checked) (s := Rows.OpenSpec.upto Rows.codecApartSpec) (k := Rows.uptoSmall) rfl La.own started (by kernel_rfl) Try.func4
    (OpenSpec.witness (enc := enc) (C := Try.checked) (s := Rows.OpenSpec.upto Rows.codecApartSpec) (k := Rows.uptoSmall) rfl false ⟨#[], #[.agg #[.int .i64 0, .string ⟨#[]⟩, .string ⟨#[]⟩, .string ⟨#[]⟩, .string ⟨#[]⟩, .string ⟨#[]⟩, .string ⟨#[]⟩, .slice none 0 0, .int .i64 0, .int .i64 0, .int .i64 0], .int .i64 0, .string ⟨#[]⟩], []⟩ 8 (by kernel_rfl) (by kernel_rfl) (by kernel_rfl)
      (x := ([.agg [.lit (.int .i64 0), .lit (.string []), .lit (.string []), .lit (.string []), .lit (.string []), .lit (.string []), .lit (.string []), .nil, .lit (.int .i64 0), .lit (.int .i64 0), .lit (.int .i64 0)], .lit (.int .i64 0), .lit (.string [])], [], [])) (by kernel_rfl) rfl (by kernel_rfl)) ?_
  intro W base args ds gs before hval hW _ hk _
  have hW' := hW
  obtain ⟨p, q, hA0, hV, rfl, hfz, hnd⟩ := hW
  have hA : DataW.TrodAll enc Try.prog W 0 (fun _ => true) true Try.f4.params.toList args.toList ds p := hA0
  rw [Try.params4] at hA hval
  obtain ⟨v0, v1, v2, d0, d1, d2, p0, p1, p2, rfl, rfl, rfl, h0, h1, h2⟩ := trodAll_three hA
  obtain ⟨rfl, rfl⟩ := trodVars_none hV
  have hWlt := hW'.lt
  obtain ⟨C0, nv0, rfl, lv0, lb0, wf0⟩ := Kc.cmd_open (hval 0 27 v0 rfl rfl) h0
  rw [Kc.com_is] at h0 hval ⊢
  obtain ⟨s1, rfl, rfl, rfl, ws1⟩ := open_int Try.underlying3 (hval 1 3 v1 rfl rfl) h1
  obtain ⟨s2, rfl, rfl, rfl, ws2⟩ := open_string Try.underlying9 (hval 2 9 v2 rfl rfl) h2
  have hbulk := La.bulk_all hk
  have u0 : C0.sz ≤ 1048576 := by have h := Nat.le_trans (La.bulk_le (d := d0) (by simp)) hbulk; omega
  have u2 : s2.size ≤ 1048576 := by have h := Nat.le_trans (La.bulk_le (d := DataW.lit (.string s2.data.toList)) (by simp)) hbulk; rw [La.bulk_string] at h; rw [Lib.size_eq]; omega
  clear hA0 hV hk hbulk
  refine (Ly.apart_walk W (Kc.comOf C0) nv0 s1 s2 lv0 (Kc.com_ok u0 wf0) u2 (by have := Kc.com_len u0; omega)).mono ?_
  rintro e W' ⟨rfl, bel⟩
  have e1 : ((Rows.OpenSpec.upto Rows.codecApartSpec).at F).fn H ([d0, .lit (.int .i64 s1), .lit (.string s2.data.toList)] ++ []) = { results := [.lit (.bool true)], args := [d0, .lit (.int .i64 s1), .lit (.string s2.data.toList)] } := rfl
  refine ⟨_, rfl, La.post_left (pa := ?pa) (pv := []) hW' ?hr ?ha ?hv ?hp bel rfl⟩
  case ha => rw [e1]; exact trodAll_mk3 (Below.trod La.laidOut (by kernel_rfl) (of_decide_eq_true (by kernel_rfl)) h0 bel (fun q hq => hWlt q (by simp [hq]))) (shut_int Try.underlying3 ws1) (shut_string Try.underlying9 ws2)
  case hv => rw [e1]; rfl
  case hp => simp
  case hr => intro b sp hd; rw [e1]; exact trodAll_mk1 (shut_bool Try.underlying4 _)

theorem said : Rows.CodecApartUptoSaid :=
  OpenClaim.holds_of_cond 4 Try.f4 rfl rfl rfl rfl rfl rfl rfl ⟨rfl, rfl, rfl, rfl, rfl⟩ rfl rfl rfl rfl rfl (by kernel_rfl) Try.func4 (by kernel_rfl)
    (of_decide_eq_true (by kernel_rfl)) (by unfold Func.isWrapper; rw [if_neg (of_decide_eq_false (by kernel_rfl))]; exact ⟨rfl, rfl⟩)
    (fun os started H enc _ F => lifted os started H enc F)
end Go.Proofs.Ytpngbfmbjldieaa.lawCodecApart
