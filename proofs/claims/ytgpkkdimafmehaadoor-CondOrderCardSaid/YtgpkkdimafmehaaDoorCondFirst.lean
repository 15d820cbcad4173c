/-
  THE WALK OF calepinlaw10.first.
-/
import Derived.Test.YtgpkkdimafmehaaDoorCondHold
set_option linter.unusedVariables false
namespace Go.Proofs.YtgpkkdimafmehaaDoor.Co
open Go.Lib Go.RowKit Go.Shelf

theorem tag3 : sv (tagI 3) = .string ⟨#[34, 51, 34]⟩ := by
  have : tagI 3 = [34, 51, 34] := by decide +kernel
  rw [this]; rfl
theorem tag0 : sv (tagI 0) = .string ⟨#[]⟩ := rfl
set_option maxHeartbeats 8000000 in
set_option maxRecDepth 100000 in
theorem first_any (w : World) (hP : Ch.Pow w) : Calls Tryd.prog 7 #[] w fun e w' => e = .returned (.bool true) ∧ Below w.heap.size w w' := by
  have cP := parse_any ⟨#[34, 51, 34]⟩ w (by decide)
  rw [parE_yes (n := 3) (show par (⟨#[34, 51, 34]⟩ : ByteArray).data.toList = 3 from first_tag) (by decide)] at cP
  have cH1 := fun W => holds_any ⟨#[]⟩ ⟨#[42]⟩ 0 W (by decide) (by decide)
  rw [show hol (⟨#[]⟩ : ByteArray).data.toList (⟨#[42]⟩ : ByteArray).data.toList 0 = some true from first_star 0] at cH1
  have cH2 := fun W => holds_any ⟨#[120]⟩ ⟨#[]⟩ 1 W (by decide) (by decide)
  rw [show hol (⟨#[120]⟩ : ByteArray).data.toList (⟨#[]⟩ : ByteArray).data.toList 1 = none from first_none] at cH2
  unfold namE at cH1 cH2
  have cT3 := fun W hW => tag_any 3 W (by omega) hW
  have cT0 := fun W hW => tag_any 0 W (by omega) hW
  rw [tag3] at cT3
  rw [tag0] at cT0
  have hP' := Lib.hid hP
  clear hP
  have hE : ((⟨#[34, 51, 34]⟩ : ByteArray).toList == [34, 51, 34]) = true := by decide +kernel
  go_enter Tryd.func7, Tryd.ntmps7
  go_wp2_with fail
  go_at_call 9
  refine cP.mono ?_
  rintro e w ⟨rfl, rfl⟩
  go_wp2_with fail
  go_at_call 14
  refine (cH1 _).mono ?_
  rintro e w1 ⟨rfl, hb1⟩
  go_wp2_with fail
  go_at_call 14
  refine (cH2 _).mono ?_
  rintro e w2 ⟨rfl, hb2⟩
  have hb12 := below_then hb1 hb2
  go_wp2_with fail
  go_at_call 8
  refine (cT3 _ (Ch.pow_below hP'.out hb12)).mono ?_
  rintro e w3 ⟨rfl, hb3⟩
  have hb13 := below_then hb12 hb3
  go_wp2_with fail
  go_at_call 8
  refine (cT0 _ (Ch.pow_below hP'.out hb13)).mono ?_
  rintro e w4 ⟨rfl, hb4⟩
  have hb14 := below_then hb13 hb4
  clear hb1 hb2 hb3 hb4 hb12 hb13 cP cH1 cH2 cT3 cT0
  go_wp2
  go_ret
  exact ⟨rfl, hb14⟩
end Go.Proofs.YtgpkkdimafmehaaDoor.Co
