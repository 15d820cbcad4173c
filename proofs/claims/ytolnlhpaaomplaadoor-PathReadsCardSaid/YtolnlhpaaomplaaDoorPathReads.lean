/-
  THE WALK OF THE LAW PathReads.
-/
import Derived.Test.YtolnlhpaaomplaaDoorPathSpec
set_option linter.unusedVariables false
namespace Go.Proofs.YtolnlhpaaomplaaDoor.Pa
open Go.Lib Go.RowKit

set_option maxHeartbeats 2000000 in
set_option maxRecDepth 100000 in
theorem reads_walk (cO : OfC) (cP : ParseC) (cR : RootC) (s : ByteArray) (hs : s.size ≤ mostS) (w : World) (hT : Ch.Tabs w) :
    Calls Tryd.prog 4 #[.string s] w fun e w' => e = .returned (.bool true) ∧ Below w.heap.size w w' := by
  have cF := first_any cO cP cR w hT
  have c2' := Lib.hid (fun (W : World) (hW : Below w.heap.size w W) => cP s W hs (Ch.tabs_below hT hW))
  have c3 := fun W => refParse_any s W hs
  clear hT hs
  go_enter Tryd.func4, Tryd.ntmps4
  go_wp2_with fail
  go_at_call 7
  with_reducible refine cF.mono ?_
  rintro e w1 ⟨rfl, hb1⟩
  have d2 := c2'.out w1 hb1
  have hb1' := Lib.hid hb1
  clear cF hb1
  go_wp2_with fail
  go_at_call 13
  with_reducible refine d2.mono ?_
  rintro e w2 ⟨hp, hb2⟩
  have hb2' := Lib.hid (below_then hb1'.out hb2)
  have d3 := c3 w2
  clear hb2 d2
  rcases hp with ⟨hn, rfl⟩ | ⟨a, b, hv, rfl⟩
  · go_wp2_with fail
    go_at_call 14
    with_reducible refine d3.mono ?_
    rintro e w3 ⟨hq, hb3⟩
    have hb3' := Lib.hid (below_then hb2'.out hb3)
    clear hb3 d3
    rcases hq with ⟨_, rfl⟩ | ⟨x, y, hv, rfl⟩
    · clear hn
      go_wp2
      go_ret
      exact ⟨rfl, hb3'.out⟩
    · rw [hn] at hv; cases hv
  · go_wp2_with fail
    go_at_call 14
    with_reducible refine d3.mono ?_
    rintro e w3 ⟨hq, hb3⟩
    have hb3' := Lib.hid (below_then hb2'.out hb3)
    clear hb3 d3
    rcases hq with ⟨hn, rfl⟩ | ⟨x, y, hv2, rfl⟩
    · rw [hv] at hn; cases hn
    · rw [hv] at hv2
      have h3 := Option.some.inj hv2
      injection h3 with h3 h4
      obtain rfl := data_is h3
      obtain rfl := data_is h4
      clear h3 h4 hv hv2
      go_wp2
      go_ret
      exact ⟨rfl, hb3'.out⟩
end Go.Proofs.YtolnlhpaaomplaaDoor.Pa
