/-
  THE WALKS OF CondHolds AND CondTwins.
-/
import Derived.Test.YtgpkkdimafmehaaDoorCondFirst
import Derived.Test.YtgpkkdimafmehaaDoorCondRefHolds
set_option linter.unusedVariables false
namespace Go.Proofs.YtgpkkdimafmehaaDoor.Co
open Go.Lib Go.RowKit Go.Shelf

set_option maxHeartbeats 8000000 in
set_option maxRecDepth 100000 in
theorem holds_walk (m n : ByteArray) (t : Int) (w : World) (hm : m.size ≤ 1048576) (hn : n.size ≤ 1048576) (hP : Ch.Pow w) :
    Calls Tryd.prog 4 #[.string m, .string n, .int .i64 t] w fun e w' => e = .returned (.bool true) ∧ Below w.heap.size w w' := by
  have cF := first_any w hP
  have cH := fun W => holds_any m n t W (by omega) (by omega)
  have cR := fun W => refHolds_any m n t W (by omega) (by omega)
  clear hP
  generalize hol m.data.toList n.data.toList t = r at cH cR
  rcases r with _ | b
  all_goals
    unfold namE at cH
    unfold refE at cR
    go_enter Tryd.func4, Tryd.ntmps4
    go_wp2_with fail
    go_at_call 7
    refine cF.mono ?_
    rintro e w1 ⟨rfl, hb1⟩
    go_wp2_with fail
    go_at_call 14
    refine (cH _).mono ?_
    rintro e w2 ⟨rfl, hb2⟩
    go_wp2_with fail
    go_at_call 15
    refine (cR _).mono ?_
    rintro e w3 ⟨rfl, hb3⟩
    have hb := below_then (below_then hb1 hb2) hb3
    clear hb1 hb2 hb3 cF cH cR
  · go_wp2
    go_ret
    exact ⟨rfl, hb⟩
  · cases b <;> (go_wp2; go_ret; exact ⟨rfl, hb⟩)

set_option maxHeartbeats 8000000 in
set_option maxRecDepth 100000 in
theorem twins_walk (c : ByteArray) (t : Int) (w : World) (hc : c.size ≤ 1048576) (hP : Ch.Pow w) :
    Calls Tryd.prog 5 #[.string c, .int .i64 t] w fun e w' => e = .returned (.bool true) ∧ Below w.heap.size w w' := by
  have cF := first_any w hP
  clear hP
  by_cases ht : t < 1
  · clear hc
    go_enter Tryd.func5, Tryd.ntmps5
    go_wp2_with fail
    go_at_call 7
    refine cF.mono ?_
    rintro e w1 ⟨rfl, hb1⟩
    go_wp2
    go_ret
    exact ⟨rfl, hb1⟩
  by_cases h0 : c.data.toList = []
  · have hE : c.toList.isEmpty = true := by rw [isE, decide_eq_true h0]
    clear hc h0
    go_enter Tryd.func5, Tryd.ntmps5
    go_wp2_with fail
    go_at_call 7
    refine cF.mono ?_
    rintro e w1 ⟨rfl, hb1⟩
    go_wp2
    go_ret
    exact ⟨rfl, hb1⟩
  have hE : c.toList.isEmpty = false := by rw [isE, decide_eq_false h0]
  have hn : (⟨#[]⟩ : ByteArray).data.toList = [] := rfl
  have c1 := fun W => holds_any c ⟨#[]⟩ t W (by omega) (by decide)
  have c2 := fun W => holds_any ⟨#[]⟩ c t W (by decide) (by omega)
  have c3 := fun W => holds_any c c t W (by omega) (by omega)
  have c4 := fun W => holds_any c ⟨#[]⟩ 0 W (by omega) (by decide)
  have c5 := fun W => holds_any ⟨#[]⟩ c 0 W (by decide) (by omega)
  rw [hn] at c1 c2 c4 c5
  have hcase : (∃ b : Bool, hol c.data.toList [] t = some b ∧ hol [] c.data.toList t = some (!b) ∧ hol c.data.toList c.data.toList t = some false ∧ hol c.data.toList [] 0 = some false ∧ hol [] c.data.toList 0 = some true) ∨
      (hol c.data.toList [] t = none ∧ hol [] c.data.toList t = none ∧ hol c.data.toList c.data.toList t = none ∧ hol c.data.toList [] 0 = none ∧ hol [] c.data.toList 0 = none) := by
    cases hq : cond c.data.toList with
    | none =>
      have hx := twin_none hq h0
      exact .inr ⟨hol_none (.inl (hx _)), hol_none (.inr (hx _)), hol_none (.inl (hx _)), hol_none (.inl (hx _)), hol_none (.inr (hx _))⟩
    | some p =>
      have hx := twin_some hq h0
      refine .inl ⟨has p t, ?_, ?_, ?_, ?_, ?_⟩
      · rw [hol_some (hx _) (nam_nil _)]; simp [h0]
      · rw [hol_some (nam_nil _) (hx _)]; simp [h0]
      · rw [hol_some (hx _) (hx _)]; simp [h0]
      · rw [hol_some (hx _) (nam_nil _), has_none]; simp [h0]
      · rw [hol_some (nam_nil _) (hx _), has_none]; simp
  clear hn h0 hc
  rcases hcase with ⟨b, e1, e2, e3, e4, e5⟩ | ⟨e1, e2, e3, e4, e5⟩
  all_goals
    rw [e1] at c1
    rw [e2] at c2
    rw [e3] at c3
    rw [e4] at c4
    rw [e5] at c5
    clear e1 e2 e3 e4 e5
    unfold namE at c1 c2 c3 c4 c5
    go_enter Tryd.func5, Tryd.ntmps5
    go_wp2_with fail
    go_at_call 7
    refine cF.mono ?_
    rintro e w1 ⟨rfl, hb1⟩
    go_wp2_with fail
    go_at_call 14
    refine (c1 _).mono ?_
    rintro e w2 ⟨rfl, hb2⟩
    go_wp2_with fail
    go_at_call 14
    refine (c2 _).mono ?_
    rintro e w3 ⟨rfl, hb3⟩
    go_wp2_with fail
    go_at_call 14
    refine (c3 _).mono ?_
    rintro e w4 ⟨rfl, hb4⟩
    go_wp2_with fail
    go_at_call 14
    refine (c4 _).mono ?_
    rintro e w5 ⟨rfl, hb5⟩
    go_wp2_with fail
    go_at_call 14
    refine (c5 _).mono ?_
    rintro e w6 ⟨rfl, hb6⟩
    have hb := below_then (below_then (below_then (below_then (below_then hb1 hb2) hb3) hb4) hb5) hb6
    clear hb1 hb2 hb3 hb4 hb5 hb6 cF c1 c2 c3 c4 c5
  · cases b <;> (go_wp2; go_ret; exact ⟨rfl, hb⟩)
  · go_wp2
    go_ret
    exact ⟨rfl, hb⟩
end Go.Proofs.YtgpkkdimafmehaaDoor.Co
