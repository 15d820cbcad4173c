/-
  CodecPuts, second form: what commands, replies and entries are as bytes, and that they are got back; where the arguments are of bulk at most 2^20.
-/
import Derived.Test.YtacmfglbdbhglaaCodPutsW
import Derived.Test.YtacmfglbdbhglaaKindLog
import Derived.Test.YtacmfglbdbhglaaKindPost
import Derived.Test.YtacmfglbdbhglaaBulk
set_option linter.unusedVariables false
namespace Go.Proofs.Ytacmfglbdbhglaa.lawCodecPuts
open Go.Lib Go.RowKit Go.ChangeShapes Go.WideShapes Go.ChangeAt Ly
open Go.ChangeMaps (open_string shut_string)

set_option maxRecDepth 100000 in
set_option maxHeartbeats 2000000 in
theorem lifted (os : Os) (started : os.Started) (H : Type) (enc : TypeId × Value → H) (F : Stop.Interp) :
    ReturnsInHanded {} Try.checked os 6 .any ((Rows.OpenSpec.upto Rows.codecPutsSpec).pre6 enc Try.prog Try.f6 Rows.codecPutsUptoRow.domain false) (((Rows.OpenSpec.upto Rows.codecPutsSpec).at F).post enc Try.prog Try.f6 false true false false) := by
  refine returnsInHanded_of_cond (C := Try.checked) (s := Rows.OpenSpec.upto Rows.codecPutsSpec) (k := Rows.uptoSmall) rfl La.own started (by kernel_rfl) Try.func6
    (OpenSpec.witness (enc := enc) (C := Try.checked) (s := Rows.OpenSpec.upto Rows.codecPutsSpec) (k := Rows.uptoSmall) rfl false ⟨#[], #[.agg #[.int .i64 0, .int .i64 0, .int .i64 0, .string ⟨#[]⟩, .string ⟨#[]⟩, .string ⟨#[]⟩, .string ⟨#[]⟩, .string ⟨#[]⟩, .string ⟨#[]⟩, .slice none 0 0, .int .i64 0, .int .i64 0, .int .i64 0, .slice none 0 0], .agg #[.int .i64 0, .int .i64 0, .string ⟨#[]⟩, .slice none 0 0, .string ⟨#[]⟩]], []⟩ 8 (by kernel_rfl) (by kernel_rfl) (by kernel_rfl)
      (x := ([.agg [.lit (.int .i64 0), .lit (.int .i64 0), .agg [.lit (.int .i64 0), .lit (.string []), .lit (.string []), .lit (.string []), .lit (.string []), .lit (.string []), .lit (.string []), .nil, .lit (.int .i64 0), .lit (.int .i64 0), .lit (.int .i64 0)], .nil], .agg [.lit (.int .i64 0), .lit (.int .i64 0), .lit (.string []), .nil, .lit (.string [])]], [], [])) (by kernel_rfl) rfl (by kernel_rfl)) ?_
  intro W base args ds gs before hval hW _ hk _
  have hW' := hW
  obtain ⟨p, q, hA0, hV, rfl, hfz, hnd⟩ := hW
  have hA : DataW.TrodAll enc Try.prog W 0 (fun _ => true) true Try.f6.params.toList args.toList ds p := hA0
  rw [Try.params6] at hA hval
  obtain ⟨v0, v1, d0, d1, p0, p1, rfl, rfl, rfl, h0, h1⟩ := trodAll_two hA
  obtain ⟨rfl, rfl⟩ := trodVars_none hV
  have hWlt := hW'.lt
  obtain ⟨C0, nv0, dv0, rfl, lv0, ld0, lb0⟩ := Kc.log_open (hval 0 39 v0 rfl rfl) h0
  obtain ⟨C1, nv1, rfl, lv1, lb1⟩ := Kc.rep_open (hval 1 45 v1 rfl rfl) h1
  have hbulk := La.bulk_all hk
  have u0 := lb0 (Nat.le_trans (La.bulk_le (d := d0) (by simp)) hbulk)
  have u1 := lb1 (Nat.le_trans (La.bulk_le (d := d1) (by simp)) hbulk)
  clear hA0 hV hk hbulk
  refine (Ly.puts_walk W C0 nv0 dv0 C1 nv1 lv0 ld0 lv1 u0.1 u1.1 (by have := u0.2.1; omega) (by have := u0.2.2; omega) (by have := u1.2; omega)).mono ?_
  rintro e W' ⟨rfl, bel⟩
  have e1 : ((Rows.OpenSpec.upto Rows.codecPutsSpec).at F).fn H ([d0, d1] ++ []) = { results := [.lit (.bool true)], args := [d0, d1] } := rfl
  refine ⟨_, rfl, La.post_left (pa := ?pa) (pv := []) hW' ?hr ?ha ?hv ?hp bel rfl⟩
  case ha => rw [e1]; exact trodAll_mk2 (Below.trod La.laidOut (by kernel_rfl) (of_decide_eq_true (by kernel_rfl)) h0 bel (fun q hq => hWlt q (by simp [hq]))) (Below.trod La.laidOut (by kernel_rfl) (of_decide_eq_true (by kernel_rfl)) h1 bel (fun q hq => hWlt q (by simp [hq])))
  case hv => rw [e1]; rfl
  case hp => simp
  case hr => intro b sp hd; rw [e1]; exact trodAll_mk1 (shut_bool Try.underlying4 _)

theorem said : Rows.CodecPutsUptoSaid :=
  OpenClaim.holds_of_cond 6 Try.f6 rfl rfl rfl rfl rfl rfl rfl ⟨rfl, rfl, rfl, rfl, rfl⟩ rfl rfl rfl rfl rfl (by kernel_rfl) Try.func6 (by kernel_rfl)
    (of_decide_eq_true (by kernel_rfl)) (by unfold Func.isWrapper; rw [if_neg (of_decide_eq_false (by kernel_rfl))]; exact ⟨rfl, rfl⟩)
    (fun os started H enc _ F => lifted os started H enc F)
end Go.Proofs.Ytacmfglbdbhglaa.lawCodecPuts
