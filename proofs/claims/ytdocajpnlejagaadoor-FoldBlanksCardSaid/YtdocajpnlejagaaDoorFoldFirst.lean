/-
  THE WALK OF 'first' OF LAYER fold.
-/
import Derived.Test.YtdocajpnlejagaaDoorFoldFold
set_option linter.unusedVariables false
namespace Go.Proofs.YtdocajpnlejagaaDoor.Fo
open Go.Lib Go.RowKit Bu

theorem Reads.cell {w : World} {b off : Nat} {ls : List Row} (h : Reads w b off ls) (j : Nat) (hj : j < ls.length) (x : ByteArray) (hx : sv (ls.getD j []) = .string x) : w.cell? ⟨b, off + j, none⟩ = some (.string x) := by
  rw [h j hj, hx]

/-- Fold at a slice of one string that was made on the spot -/
theorem fold_one (x : ByteArray) (w : World) (hT : Tabs w) (hx : x.size ≤ 17179869183) :
    Calls Tryd.prog 11 #[.slice (some ⟨w.heap.size, 0, none⟩) 1 1] (w.alloc (.cells #[.string x] 9)) fun e w' => e = .returned (.string ⟨(foldL x.data.toList).toArray⟩) ∧ Below w.heap.size w w' := by
  have hb1 : Below w.heap.size w (w.alloc (.cells #[.string x] 9)) := (Below.refl _ _).alloc (Nat.le_refl _) _
  have h := fold_some w.heap.size 0 1 [x.data.toList] (w.alloc (.cells #[.string x] 9)) (tabs_below hT hb1) (by simp) (fun j hj => by
    obtain rfl : j = 0 := by simpa using hj
    rw [World.cell?_alloc_at _ _ _ _ rfl]
    simp [sv_data]) (by have : tot [x.data.toList] = x.data.toList.length + 1 := by simp [tot]
                        rw [this, ← Lib.size_eq]; omega)
  refine h.mono ?_
  rintro e w' ⟨rfl, hb⟩
  exact ⟨by simp [foldAll], hb1.trans (hb.mono (by simp))⟩

set_option maxHeartbeats 2000000 in
set_option maxRecDepth 100000 in
theorem first_any (w : World) (hT : Tabs w) : Calls Tryd.prog 7 #[] w fun e w' => e = .returned (.bool true) ∧ Below w.heap.size w w' := by
  have hT' := Lib.hid hT
  clear hT
  go_enter Tryd.func7, Tryd.ntmps7
  go_wp2_with fail
  go_at_call 8
  refine (unfold_any ⟨#[65, 58, 49, 13, 10, 32, 50, 10, 66, 58, 10]⟩ w (by decide)).mono ?_
  rintro e w1 ⟨hU, hb1⟩
  rcases hU with ⟨v, out, rfl, hR, hown⟩ | ⟨rfl, hR⟩
  · have hRe : R [] (⟨#[65, 58, 49, 13, 10, 32, 50, 10, 66, 58, 10]⟩ : ByteArray).data.toList = some [[65, 58, 49, 50], [66, 58]] := by decide +kernel
    obtain rfl := Option.some.inj (hR.symm.trans hRe)
    rcases hown.reads with ⟨_, h⟩ | ⟨g, cap, rfl, hBg, hgw, hrd⟩
    · cases h
    · clear hR hRe hown
      go_wp2_with fail
      go_at_call 8
      refine (unfold_any ⟨#[32, 65, 10]⟩ w1 (by decide)).mono ?_
      rintro e w2 ⟨hU, hb2⟩
      rcases hU with ⟨v, out, rfl, hR, hown⟩ | ⟨rfl, hR⟩
      · have hRe : R [] (⟨#[32, 65, 10]⟩ : ByteArray).data.toList = none := by decide +kernel
        rw [hRe] at hR
        cases hR
      · clear hR
        have hrd2 := hrd.below hgw hb2
        have c0 : w2.cell? ⟨g, 0, none⟩ = some (.string ⟨#[65, 58, 49, 50]⟩) := hrd2.cell 0 (by decide) _ rfl
        have c1 : w2.cell? ⟨g, 1, none⟩ = some (.string ⟨#[66, 58]⟩) := hrd2.cell 1 (by decide) _ rfl
        have hb := below_then hb1 hb2
        have cF := fold_one ⟨#[97, 98]⟩ w2 (tabs_below hT'.out hb) (by decide)
        rw [show foldL (⟨#[97, 98]⟩ : ByteArray).data.toList = [97, 98, 13, 10] by decide +kernel] at cF
        clear hrd hrd2 hb1 hb2 hBg hgw
        go_wp2_with (go_at_call 11; refine cF.mono ?_; rintro e w3 ⟨rfl, hb3⟩)
        go_ret
        exact ⟨rfl, below_then hb hb3⟩
  · have hRe : R [] (⟨#[65, 58, 49, 13, 10, 32, 50, 10, 66, 58, 10]⟩ : ByteArray).data.toList = some [[65, 58, 49, 50], [66, 58]] := by decide +kernel
    rw [hRe] at hR
    cases hR
end Go.Proofs.YtdocajpnlejagaaDoor.Fo
