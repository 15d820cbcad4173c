/-
  WHAT THE CALLS OF LAYER path ANSWER (each is shown of the program where its code is walked), AND THE WALK OF THE LAWS' first.
-/
import Derived.Test.YtolnlhpaaomplaaDoorPathRefParse
import Derived.SizedLaws
set_option linter.unusedVariables false
namespace Go.Proofs.YtolnlhpaaomplaaDoor.Pa
open Go.Lib Go.RowKit

def SegP (t : Row) (e : Ending) : Prop := (fits t = false ∧ e = .returned (.tuple #[.string ⟨#[]⟩, .int .i64 60])) ∨ (fits t = true ∧ ∃ x : ByteArray, x.data.toList = seg t ∧ e = .returned (.tuple #[.string x, .int .i64 0]))
def OfP (c n : Row) (e : Ending) : Prop := (ofP c n = none ∧ e = .returned (.tuple #[.string ⟨#[]⟩, .int .i64 60])) ∨ ∃ x : ByteArray, ofP c n = some x.data.toList ∧ e = .returned (.tuple #[.string x, .int .i64 0])
def ParseP (t : Row) (e : Ending) : Prop := (parseP t = none ∧ e = .returned (.tuple #[.string ⟨#[]⟩, .string ⟨#[]⟩, .int .i64 60])) ∨ ∃ a b : ByteArray, parseP t = some (a.data.toList, b.data.toList) ∧ e = .returned (.tuple #[.string a, .string b, .int .i64 0])
/-- what a string may have at most -/
abbrev mostS : Nat := 140737488355328
theorem most_of {s : ByteArray} (h : s.data.toList.length ≤ reachBytes) : s.size ≤ mostS := by
  have e : reachBytes = 140737488351232 := rfl
  rw [Lib.size_eq]; unfold mostS; omega
def SegC : Prop := ∀ (t : ByteArray) (w : World), t.size ≤ mostS → Ch.Tabs w → Calls Tryd.prog 8 #[.string t] w fun e w' => SegP t.data.toList e ∧ Below w.heap.size w w'
def OfC : Prop := ∀ (c n : ByteArray) (w : World), c.size ≤ mostS → n.size ≤ mostS → Ch.Tabs w → Calls Tryd.prog 11 #[.string c, .string n] w fun e w' => OfP c.data.toList n.data.toList e ∧ Below w.heap.size w w'
def ParseC : Prop := ∀ (t : ByteArray) (w : World), t.size ≤ mostS → Ch.Tabs w → Calls Tryd.prog 13 #[.string t] w fun e w' => ParseP t.data.toList e ∧ Below w.heap.size w w'
def RootC : Prop := ∀ (w : World), Calls Tryd.prog 15 #[] w fun e w' => e = .returned (.string ⟨#[47]⟩) ∧ Below w.heap.size w w'

theorem data_is {x y : ByteArray} (h : x.data.toList = y.data.toList) : x = y := by
  cases x; cases y
  simp only [Array.toList_inj] at h
  rw [h]
theorem below_then {a b c : World} (h1 : Below a.heap.size a b) (h2 : Below b.heap.size b c) : Below a.heap.size a c := h1.trans (h2.mono h1.size)

set_option maxHeartbeats 2000000 in
set_option maxRecDepth 100000 in
theorem first_any (cO : OfC) (cP : ParseC) (cR : RootC) (w : World) (hT : Ch.Tabs w) :
    Calls Tryd.prog 7 #[] w fun e w' => e = .returned (.bool true) ∧ Below w.heap.size w w' := by
  have c1 := (cO ⟨#[97, 32, 98]⟩ ⟨#[120, 47, 121]⟩ w (by decide) (by decide) hT).mono (fun e w' (h : OfP _ _ e ∧ Below w.heap.size w w') => (show e = .returned (.tuple #[.string ⟨#[47, 97, 37, 50, 48, 98, 47, 120, 37, 50, 70, 121]⟩, .int .i64 0]) ∧ Below w.heap.size w w' from ⟨(by
    have hv : ofP (⟨#[97, 32, 98]⟩ : ByteArray).data.toList (⟨#[120, 47, 121]⟩ : ByteArray).data.toList = some [47, 97, 37, 50, 48, 98, 47, 120, 37, 50, 70, 121] := by decide +kernel
    rcases h.1 with ⟨h1, _⟩ | ⟨x, h1, h2⟩
    · rw [hv] at h1; cases h1
    · rw [hv] at h1
      rw [h2, data_is (x := x) (y := ⟨#[47, 97, 37, 50, 48, 98, 47, 120, 37, 50, 70, 121]⟩) (Option.some.inj h1).symm]), h.2⟩))
  have c2 := fun (W : World) (hW : Below w.heap.size w W) => (cP ⟨#[47, 97, 37, 50, 48, 98, 47, 120, 37, 50, 70, 121]⟩ W (by decide) (Ch.tabs_below hT hW)).mono (fun e w' (h : ParseP _ e ∧ Below W.heap.size W w') => (show e = .returned (.tuple #[.string ⟨#[97, 32, 98]⟩, .string ⟨#[120, 47, 121]⟩, .int .i64 0]) ∧ Below W.heap.size W w' from ⟨(by
    have hv : parseP (⟨#[47, 97, 37, 50, 48, 98, 47, 120, 37, 50, 70, 121]⟩ : ByteArray).data.toList = some ([97, 32, 98], [120, 47, 121]) := by decide +kernel
    rcases h.1 with ⟨h1, _⟩ | ⟨x, y, h1, h2⟩
    · rw [hv] at h1; cases h1
    · rw [hv] at h1
      have h3 := Option.some.inj h1
      injection h3 with h3 h4
      rw [h2, data_is (x := x) (y := ⟨#[97, 32, 98]⟩) h3.symm, data_is (x := y) (y := ⟨#[120, 47, 121]⟩) h4.symm]), h.2⟩))
  have c3 := fun (W : World) (hW : Below w.heap.size w W) => (cP ⟨#[47, 97]⟩ W (by decide) (Ch.tabs_below hT hW)).mono (fun e w' (h : ParseP _ e ∧ Below W.heap.size W w') => (show e = .returned (.tuple #[.string ⟨#[]⟩, .string ⟨#[]⟩, .int .i64 60]) ∧ Below W.heap.size W w' from ⟨(by
    have hv : parseP (⟨#[47, 97]⟩ : ByteArray).data.toList = none := by decide +kernel
    rcases h.1 with ⟨h1, h2⟩ | ⟨x, y, h1, h2⟩
    · exact h2
    · rw [hv] at h1; cases h1), h.2⟩))
  have c2' := Lib.hid c2
  have c3' := Lib.hid c3
  clear c2 c3 hT
  go_enter Tryd.func7, Tryd.ntmps7
  go_wp2_with fail
  go_at_call 11
  with_reducible refine c1.mono ?_
  rintro e w1 ⟨rfl, hb1⟩
  have d2 := c2'.out w1 hb1
  go_wp2_with fail
  go_at_call 13
  with_reducible refine d2.mono ?_
  rintro e w2 ⟨rfl, hb2⟩
  have hb2' := below_then hb1 hb2
  have d3 := c3'.out w2 hb2'
  clear hb2 d2 c1 hb1
  go_wp2_with fail
  go_at_call 13
  with_reducible refine d3.mono ?_
  rintro e w3 ⟨rfl, hb3⟩
  have hb3' := Lib.hid (below_then hb2' hb3)
  clear hb3 d3 hb2'
  go_wp2_with fail
  go_at_call 15
  have d4 := cR w3
  with_reducible refine d4.mono ?_
  rintro e w4 ⟨rfl, hb4⟩
  have hb4' := Lib.hid (below_then hb3'.out hb4)
  clear hb4
  go_wp2
  go_ret
  exact ⟨rfl, hb4'.out⟩
end Go.Proofs.YtolnlhpaaomplaaDoor.Pa
