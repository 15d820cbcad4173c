/-
  THE WALKS OF path.Root AND path.Of.
-/
import Derived.Test.YtolnlhpaaomplaaDoorPathCodeText
set_option linter.unusedVariables false
namespace Go.Proofs.YtolnlhpaaomplaaDoor.Pa
open Go.Lib Go.RowKit

theorem root_any : RootC := fun w => by
  go_enter Tryd.func15, Tryd.ntmps15
  go_wp2
  go_ret
  exact ⟨rfl, Below.refl _ _⟩
theorem empty_of (s : ByteArray) (h : s.data.toList = []) : s.toList.isEmpty = true := by rw [Lib.toList_data, h]; rfl
theorem nonempty_of (s : ByteArray) (h : s.data.toList ≠ []) : s.toList.isEmpty = false := by
  rw [Lib.toList_data]
  cases h' : s.data.toList with
  | nil => exact absurd h' h
  | cons _ _ => rfl

set_option maxHeartbeats 4000000 in
set_option maxRecDepth 100000 in
theorem of_any : OfC := fun c n w hc hn hT => by
  have cR : ∀ W, Calls Tryd.prog 15 #[] W fun e w' => e = .returned (.string ⟨#[47]⟩) ∧ Below W.heap.size W w' := root_any
  have cS := segment_any c w hc hT
  have cN := Lib.hid (fun (W : World) (hW : Below w.heap.size w W) => segment_any n W hn (Ch.tabs_below hT hW))
  clear hT
  by_cases h0 : c.data.toList = [] ∧ n.data.toList = []
  · obtain ⟨h1, h2⟩ := h0
    have hf := Lib.hid (show OfP c.data.toList n.data.toList (.returned (.tuple #[.string ⟨#[47]⟩, .int .i64 0])) from .inr ⟨_, ofP_root h1 h2, rfl⟩)
    have e1 := empty_of c h1
    have e2 := empty_of n h2
    clear h1 h2 cS cN
    go_enter Tryd.func11, Tryd.ntmps11
    go_wp2_with (go_at_call 15; with_reducible refine (cR _).mono ?_; rintro e w2 ⟨rfl, hb⟩)
    go_ret2
    exact ⟨hf.out, by assumption⟩
  · have hx : Hid (¬ (fits c.data.toList = true ∧ (n.data.toList = [] ∨ fits n.data.toList = true)) → OfP c.data.toList n.data.toList (.returned (.tuple #[.string ⟨#[]⟩, .int .i64 60]))) := Lib.hid fun q => .inl ⟨ofP_bad h0 q, rfl⟩
    have hz : (c.toList.isEmpty = true ∧ n.toList.isEmpty = false) ∨ c.toList.isEmpty = false := by
      by_cases q : c.data.toList = []
      · exact .inl ⟨empty_of c q, nonempty_of n (fun e => h0 ⟨q, e⟩)⟩
      · exact .inr (nonempty_of c q)
    clear h0
    by_cases hfc : fits c.data.toList = true
    · have hcl := fits_len hfc
      rw [← Lib.size_eq] at hcl
      have hc0 : c.toList.isEmpty = false := nonempty_of c (fits_ne hfc)
      have hfc' := Lib.hid hfc
      clear hz hfc
      by_cases hn0 : n.data.toList = []
      · have ho := Lib.hid (ofP_ok hfc'.out (.inl hn0))
        have e2 := empty_of n hn0
        have hn0' := Lib.hid hn0
        clear hn0 cN hx
        go_enter Tryd.func11, Tryd.ntmps11
        go_wp2_with fail
        go_at_call 8
        with_reducible refine cS.mono ?_
        rintro e w2 ⟨hp, hb2⟩
        have hb2' := Lib.hid hb2
        clear cS hb2
        rcases hp with ⟨hq, _⟩ | ⟨_, x, hx, rfl⟩
        · rw [hfc'.out] at hq; cases hq
        · obtain ⟨y1, hy1⟩ : ∃ y, (⟨#[47]⟩ : ByteArray) ++ x = y := ⟨_, rfl⟩
          obtain ⟨y2, hy2⟩ : ∃ y, y1 ++ (⟨#[47]⟩ : ByteArray) = y := ⟨_, rfl⟩
          have hxs := seg_len c.data.toList
          rw [← hx, ← Lib.size_eq, ← Lib.size_eq] at hxs
          have y1d := cat_data _ _ _ hy1
          have y2d := cat_data _ _ _ hy2
          have y1s : y1.size = 1 + x.size := cat_size _ _ _ hy1
          have m1 : ¬ 9223372036854775807 < (⟨#[47]⟩ : ByteArray).size + x.size := by rw [show (⟨#[47]⟩ : ByteArray).size = 1 from rfl]; omega
          have m2 : ¬ 9223372036854775807 < y1.size + (⟨#[47]⟩ : ByteArray).size := by rw [show (⟨#[47]⟩ : ByteArray).size = 1 from rfl]; omega
          have m1' : ¬ 9223372036854775807 < 1 + x.size := by omega
          have m2' : ¬ 9223372036854775807 < y1.size + 1 := by omega
          have hf := Lib.hid (show OfP c.data.toList n.data.toList (.returned (.tuple #[.string y2, .int .i64 0])) from .inr ⟨_, by rw [ho.out, y2d, y1d, hx, hn0'.out]; simp [seg], rfl⟩)
          clear y1d y2d hxs hx
          go_wp2_with fail
          go_at_call 15
          with_reducible refine (cR _).mono ?_
          rintro e w3 ⟨rfl, hb3⟩
          have hb3' := Lib.hid (below_then hb2'.out hb3)
          clear cR hb3
          go_wp2
          go_ret2
          exact ⟨hf.out, hb3'.out⟩
      · have e2 := nonempty_of n hn0
        have hn0' := Lib.hid hn0
        clear hn0
        go_enter Tryd.func11, Tryd.ntmps11
        go_wp2_with fail
        go_at_call 8
        with_reducible refine cS.mono ?_
        rintro e w2 ⟨hp, hb2⟩
        have hb2' := Lib.hid hb2
        clear cS hb2
        rcases hp with ⟨hq, _⟩ | ⟨_, x, hxx, rfl⟩
        · rw [hfc'.out] at hq; cases hq
        · have hxs := seg_len c.data.toList
          rw [← hxx, ← Lib.size_eq, ← Lib.size_eq] at hxs
          obtain ⟨y1, hy1⟩ : ∃ y, (⟨#[47]⟩ : ByteArray) ++ x = y := ⟨_, rfl⟩
          obtain ⟨y2, hy2⟩ : ∃ y, y1 ++ (⟨#[47]⟩ : ByteArray) = y := ⟨_, rfl⟩
          have y1s : y1.size = 1 + x.size := cat_size _ _ _ hy1
          have y2s : y2.size = y1.size + 1 := cat_size _ _ _ hy2
          have y1d := Lib.hid (cat_data _ _ _ hy1)
          have y2d := Lib.hid (cat_data _ _ _ hy2)
          have hxx' := Lib.hid hxx
          have m1 : ¬ 9223372036854775807 < (⟨#[47]⟩ : ByteArray).size + x.size := by rw [show (⟨#[47]⟩ : ByteArray).size = 1 from rfl]; omega
          have m2 : ¬ 9223372036854775807 < y1.size + (⟨#[47]⟩ : ByteArray).size := by rw [show (⟨#[47]⟩ : ByteArray).size = 1 from rfl]; omega
          have m1' : ¬ 9223372036854775807 < 1 + x.size := by omega
          have m2' : ¬ 9223372036854775807 < y1.size + 1 := by omega
          clear hxx hxs
          go_wp2_with fail
          go_at_call 15
          with_reducible refine (cR _).mono ?_
          rintro e w4 ⟨rfl, hb4⟩
          have hb4' := Lib.hid (below_then hb2'.out hb4)
          have cM := cN.out w4 hb4'.out
          clear cR hb4
          go_wp2_with fail
          go_at_call 8
          with_reducible refine cM.mono ?_
          rintro e w3 ⟨hp, hb3⟩
          have hb3' := Lib.hid (below_then hb4'.out hb3)
          clear cM hb3
          rcases hp with ⟨hq, rfl⟩ | ⟨hq, z, hz, rfl⟩
          · have hf := Lib.hid (hx.out (fun q => q.2.elim hn0'.out (fun e => by rw [hq] at e; cases e)))
            clear hq hx
            go_wp2
            go_ret2
            exact ⟨hf.out, hb3'.out⟩
          · have ho := Lib.hid (ofP_ok hfc'.out (.inr hq))
            have hnl := fits_len hq
            rw [← Lib.size_eq] at hnl
            obtain ⟨y3, hy3⟩ : ∃ y, y2 ++ z = y := ⟨_, rfl⟩
            have hzs := seg_len n.data.toList
            rw [← hz, ← Lib.size_eq, ← Lib.size_eq] at hzs
            have y3d := cat_data _ _ _ hy3
            have m3 : ¬ 9223372036854775807 < y2.size + z.size := by have := seg_len c.data.toList; rw [← hxx'.out, ← Lib.size_eq, ← Lib.size_eq] at this; omega
            have hf := Lib.hid (show OfP c.data.toList n.data.toList (.returned (.tuple #[.string y3, .int .i64 0])) from .inr ⟨_, by rw [ho.out, y3d, y2d.out, y1d.out, hxx'.out, hz]; simp, rfl⟩)
            clear y3d hzs hz hq hx
            go_wp2
            go_ret2
            exact ⟨hf.out, hb3'.out⟩
    · have hfc' : fits c.data.toList = false := by simpa using hfc
      have hf := Lib.hid (hx.out (fun q => hfc q.1))
      have hff := Lib.hid hfc'
      clear hx hfc hfc' cN
      rcases hz with ⟨e1, e2⟩ | e1
      all_goals
        go_enter Tryd.func11, Tryd.ntmps11
        go_wp2_with fail
        go_at_call 8
        with_reducible refine cS.mono ?_
        rintro e w2 ⟨hp, hb2⟩
        have hb2' := Lib.hid hb2
        clear cS hb2
        rcases hp with ⟨_, rfl⟩ | ⟨hq, _⟩
        · go_wp2
          go_ret2
          exact ⟨hf.out, hb2'.out⟩
        · rw [hff.out] at hq; cases hq
end Go.Proofs.YtolnlhpaaomplaaDoor.Pa
