/-
  THE WALK OF THE REFERENCE's Of.
-/
import Derived.Test.YtolnlhpaaomplaaDoorPathRefText
set_option linter.unusedVariables false
namespace Go.Proofs.YtolnlhpaaomplaaDoor.Pa
open Go.Lib Go.RowKit

/-- what Of answers, the reference's -/
def OfR (c n : Row) (e : Ending) : Prop := (ofP c n = none ∧ e = .returned (.tuple #[.string ⟨#[]⟩, .bool false])) ∨ ∃ x : ByteArray, ofP c n = some x.data.toList ∧ e = .returned (.tuple #[.string x, .bool true])
theorem fits_len {t : Row} (h : fits t = true) : t.length < 65 := by
  unfold fits at h
  simp only [Bool.and_eq_true, decide_eq_true_eq] at h
  exact h.2.1.2
theorem size_nil {s : ByteArray} : s.size = 0 ↔ s.data.toList = [] := by
  rw [Lib.size_eq]; exact List.length_eq_zero_iff
theorem ofP_root {c n : Row} (h : c = []) (h' : n = []) : ofP c n = some [47] := by unfold ofP; rw [if_pos ⟨h, h'⟩]
theorem ofP_bad {c n : Row} (h : ¬ (c = [] ∧ n = [])) (h' : ¬ (fits c = true ∧ (n = [] ∨ fits n = true))) : ofP c n = none := by unfold ofP; rw [if_neg h, if_neg h']
theorem ofP_ok {c n : Row} (h : fits c = true) (h' : n = [] ∨ fits n = true) : ofP c n = some (47 :: (seg c ++ 47 :: seg n)) := by
  unfold ofP
  rw [if_neg (fun q => fits_ne h q.1), if_pos ⟨h, h'⟩]

set_option maxHeartbeats 4000000 in
set_option maxRecDepth 100000 in
theorem refOf_any (c n : ByteArray) (w : World) (hc : c.size ≤ 9223372036854775807) (hn : n.size ≤ 9223372036854775807) :
    Calls Tryd.prog 12 #[.string c, .string n] w fun e w' => OfR c.data.toList n.data.toList e ∧ Below w.heap.size w w' := by
  by_cases h0 : c.size = 0 ∧ n.size = 0
  · obtain ⟨h1, h2⟩ := h0
    have hf := Lib.hid (show OfR c.data.toList n.data.toList (.returned (.tuple #[.string ⟨#[47]⟩, .bool true])) from .inr ⟨_, ofP_root (size_nil.1 h1) (size_nil.1 h2), rfl⟩)
    have h1' : ((c.size : Int) == 0) = true := by rw [h1]; rfl
    have h2' : ((n.size : Int) == 0) = true := by rw [h2]; rfl
    go_enter Tryd.func12, Tryd.ntmps12
    go_wp2
    go_ret2
    exact ⟨hf.out, Below.refl _ _⟩
  · have h0' : ¬ (c.data.toList = [] ∧ n.data.toList = []) := fun q => h0 ⟨size_nil.2 q.1, size_nil.2 q.2⟩
    have cC := fun W => refFits_any c W (by omega)
    have cN := fun W => refFits_any n W (by omega)
    have hx : Hid (¬ (fits c.data.toList = true ∧ (n.data.toList = [] ∨ fits n.data.toList = true)) → OfR c.data.toList n.data.toList (.returned (.tuple #[.string ⟨#[]⟩, .bool false]))) := Lib.hid fun q => .inl ⟨ofP_bad h0' q, rfl⟩
    have hz : ((c.size : Int) == 0) = false ∨ (((c.size : Int) == 0) = true ∧ ((n.size : Int) == 0) = false) := by
      by_cases q : c.size = 0
      · exact .inr ⟨by rw [q]; rfl, beq_eq_false_iff_ne.2 (by omega)⟩
      · exact .inl (beq_eq_false_iff_ne.2 (by omega))
    clear h0 h0'
    by_cases hfc : fits c.data.toList = true
    · rw [hfc] at cC
      have hcl := fits_len hfc
      rw [← Lib.size_eq] at hcl
      have hc0 : ¬ (c.size : Int) = 0 := fun q => fits_ne hfc (size_nil.1 (by omega))
      have dc : ((c.size : Int) == 0) = false := beq_eq_false_iff_ne.2 hc0
      have cS := fun W => refSegment_any c W (by omega)
      by_cases hn0 : n.size = 0
      · have hd1 : ¬ (0 : Int) < (n.size : Int) := by omega
        have hnb : n.size < 65 := by omega
        have cT := fun W => refSegment_any n W (by omega)
        have ho := Lib.hid (ofP_ok hfc (.inl (size_nil.1 hn0)))
        clear hx hfc hc0 cN
        go_enter Tryd.func12, Tryd.ntmps12
        go_wp2_with fail
        go_at_call 9
        with_reducible refine (cC _).mono ?_
        rintro e w2 ⟨rfl, rfl⟩
        go_wp2_with fail
        go_at_call 10
        with_reducible refine (cS _).mono ?_
        rintro e w3 ⟨⟨x, hx, rfl⟩, hb3⟩
        obtain ⟨y1, hy1⟩ : ∃ y, (⟨#[47]⟩ : ByteArray) ++ x = y := ⟨_, rfl⟩
        obtain ⟨y2, hy2⟩ : ∃ y, y1 ++ (⟨#[47]⟩ : ByteArray) = y := ⟨_, rfl⟩
        have hxs := seg_len c.data.toList
        rw [← hx, ← Lib.size_eq, ← Lib.size_eq] at hxs
        have y1d := cat_data _ _ _ hy1
        have y2d := cat_data _ _ _ hy2
        have y1s : y1.size = 1 + x.size := cat_size _ _ _ hy1
        have y2s : y2.size = y1.size + 1 := cat_size _ _ _ hy2
        have m1 : ¬ 9223372036854775807 < (⟨#[47]⟩ : ByteArray).size + x.size := by rw [show (⟨#[47]⟩ : ByteArray).size = 1 from rfl]; omega
        have m2 : ¬ 9223372036854775807 < y1.size + (⟨#[47]⟩ : ByteArray).size := by rw [show (⟨#[47]⟩ : ByteArray).size = 1 from rfl]; omega
        have m1' : ¬ 9223372036854775807 < 1 + x.size := by omega
        have m2' : ¬ 9223372036854775807 < y1.size + 1 := by omega
        have y2b : y2.size ≤ 1000 := by omega
        have hyd := Lib.hid (show y2.data.toList = 47 :: (seg c.data.toList ++ [47]) by rw [y2d, y1d, hx]; rfl)
        clear y1d y2d y1s y2s hxs hx
        go_wp2_with fail
        go_at_call 10
        with_reducible refine (cT _).mono ?_
        rintro e w4 ⟨⟨z, hz, rfl⟩, hb4⟩
        obtain ⟨y3, hy3⟩ : ∃ y, y2 ++ z = y := ⟨_, rfl⟩
        have hzs := seg_len n.data.toList
        rw [← hz, ← Lib.size_eq, ← Lib.size_eq] at hzs
        have m3 : ¬ 9223372036854775807 < y2.size + z.size := by omega
        have hf := Lib.hid (show OfR c.data.toList n.data.toList (.returned (.tuple #[.string y3, .bool true])) from .inr ⟨_, by rw [ho.out, cat_data _ _ _ hy3, hyd.out, hz]; simp, rfl⟩)
        have hb := Lib.hid (hb3.trans (hb4.mono hb3.size))
        clear hz hzs hb3 hb4 cS cT
        go_wp2
        go_ret2
        exact ⟨hf.out, hb.out⟩
      · have hd1 : (0 : Int) < (n.size : Int) := by omega
        by_cases hfn : fits n.data.toList = true
        · rw [hfn] at cN
          have hnb := fits_len hfn
          rw [← Lib.size_eq] at hnb
          have cT := fun W => refSegment_any n W (by omega)
          have ho := Lib.hid (ofP_ok hfc (.inr hfn))
          clear hx hfc hfn hc0
          go_enter Tryd.func12, Tryd.ntmps12
          go_wp2_with fail
          go_at_call 9
          with_reducible refine (cC _).mono ?_
          rintro e w2 ⟨rfl, rfl⟩
          go_wp2_with fail
          go_at_call 9
          with_reducible refine (cN _).mono ?_
          rintro e w2 ⟨rfl, rfl⟩
          go_wp2_with fail
          go_at_call 10
          with_reducible refine (cS _).mono ?_
          rintro e w3 ⟨⟨x, hx, rfl⟩, hb3⟩
          obtain ⟨y1, hy1⟩ : ∃ y, (⟨#[47]⟩ : ByteArray) ++ x = y := ⟨_, rfl⟩
          obtain ⟨y2, hy2⟩ : ∃ y, y1 ++ (⟨#[47]⟩ : ByteArray) = y := ⟨_, rfl⟩
          have hxs := seg_len c.data.toList
          rw [← hx, ← Lib.size_eq, ← Lib.size_eq] at hxs
          have y1d := cat_data _ _ _ hy1
          have y2d := cat_data _ _ _ hy2
          have y1s : y1.size = 1 + x.size := cat_size _ _ _ hy1
          have y2s : y2.size = y1.size + 1 := cat_size _ _ _ hy2
          have m1 : ¬ 9223372036854775807 < (⟨#[47]⟩ : ByteArray).size + x.size := by rw [show (⟨#[47]⟩ : ByteArray).size = 1 from rfl]; omega
          have m2 : ¬ 9223372036854775807 < y1.size + (⟨#[47]⟩ : ByteArray).size := by rw [show (⟨#[47]⟩ : ByteArray).size = 1 from rfl]; omega
          have m1' : ¬ 9223372036854775807 < 1 + x.size := by omega
          have m2' : ¬ 9223372036854775807 < y1.size + 1 := by omega
          have y2b : y2.size ≤ 1000 := by omega
          have hyd := Lib.hid (show y2.data.toList = 47 :: (seg c.data.toList ++ [47]) by rw [y2d, y1d, hx]; rfl)
          clear y1d y2d y1s y2s hxs hx
          go_wp2_with fail
          go_at_call 10
          with_reducible refine (cT _).mono ?_
          rintro e w4 ⟨⟨z, hz, rfl⟩, hb4⟩
          obtain ⟨y3, hy3⟩ : ∃ y, y2 ++ z = y := ⟨_, rfl⟩
          have hzs := seg_len n.data.toList
          rw [← hz, ← Lib.size_eq, ← Lib.size_eq] at hzs
          have m3 : ¬ 9223372036854775807 < y2.size + z.size := by omega
          have hf := Lib.hid (show OfR c.data.toList n.data.toList (.returned (.tuple #[.string y3, .bool true])) from .inr ⟨_, by rw [ho.out, cat_data _ _ _ hy3, hyd.out, hz]; simp, rfl⟩)
          have hb := Lib.hid (hb3.trans (hb4.mono hb3.size))
          clear hz hzs hb3 hb4 cS cT
          go_wp2
          go_ret2
          exact ⟨hf.out, hb.out⟩
        · have hfn' : fits n.data.toList = false := by simpa using hfn
          rw [hfn'] at cN
          have hf := Lib.hid (hx.out (fun q => q.2.elim (fun e => hn0 (size_nil.2 e)) hfn))
          clear hx hfc hfn hfn' hc0 cS
          go_enter Tryd.func12, Tryd.ntmps12
          go_wp2_with fail
          go_at_call 9
          with_reducible refine (cC _).mono ?_
          rintro e w2 ⟨rfl, rfl⟩
          go_wp2_with fail
          go_at_call 9
          with_reducible refine (cN _).mono ?_
          rintro e w2 ⟨rfl, rfl⟩
          go_wp2
          go_ret2
          exact ⟨hf.out, Below.refl _ _⟩
    · have hfc' : fits c.data.toList = false := by simpa using hfc
      rw [hfc'] at cC
      have hf := Lib.hid (hx.out (fun q => hfc q.1))
      clear hx hfc hfc' cN
      rcases hz with dc | ⟨dc, dn⟩
      all_goals
        go_enter Tryd.func12, Tryd.ntmps12
        go_wp2_with fail
        go_at_call 9
        with_reducible refine (cC _).mono ?_
        rintro e w2 ⟨rfl, rfl⟩
        go_wp2
        go_ret2
        exact ⟨hf.out, Below.refl _ _⟩
end Go.Proofs.YtolnlhpaaomplaaDoor.Pa
