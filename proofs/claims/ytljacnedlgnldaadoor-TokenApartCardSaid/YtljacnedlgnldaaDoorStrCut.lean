/-
  THE WALK OF strings.Cut at one byte (for any seat).
-/
import Derived.Test.YtljacnedlgnldaaDoorShelf
import Derived.Lib.Hide
import Derived.Below
import Derived.Lib.IndexLaws
import Derived.LoopTactic
import Derived.BigQuiet
import Derived.Deep.QuietTactic
import Derived.IntWalk
import Derived.WalkKit
set_option linter.unusedVariables false
namespace Go.Proofs.YtljacnedlgnldaaDoor.Sc
open Go.Lib Go.RowKit

theorem below_drewN {a w : World} (n : Nat) (h : Below a.heap.size a w) : Below a.heap.size a (w.drewN n) := ⟨h.os, h.tape, h.output, h.size, h.block⟩
/-! ### strings.Cut at one byte -/
def CutP (c : UInt8) (t : ByteArray) (e : Ending) : Prop :=
  (c ∉ t.data.toList ∧ e = .returned (.tuple #[.string t, .string ⟨#[]⟩, .bool false])) ∨
  ∃ a r : ByteArray, c ∉ a.data.toList ∧ t.data.toList = a.data.toList ++ c :: r.data.toList ∧ e = .returned (.tuple #[.string a, .string r, .bool true])
theorem byte_at (l : List UInt8) (c : UInt8) : (indexByte l c = -1 ∧ c ∉ l) ∨ ∃ k : Nat, indexByte l c = k ∧ k < l.length ∧ c ∉ l.take k ∧ l = l.take k ++ c :: l.drop (k + 1) := by
  have hge := indexByte_ge l c
  by_cases h : indexByte l c = -1
  · left
    refine ⟨h, fun hm => ?_⟩
    obtain ⟨k, hk⟩ := List.mem_iff_getElem?.1 hm
    exact indexByte_none h k hk
  · right
    obtain ⟨k, hk⟩ : ∃ k : Nat, indexByte l c = k := ⟨(indexByte l c).toNat, by omega⟩
    obtain ⟨h1, h2⟩ := indexByte_some hk
    obtain ⟨hlt, hv⟩ := List.getElem?_eq_some_iff.1 h1
    refine ⟨k, hk, hlt, fun hm => ?_, ?_⟩
    · obtain ⟨j, hj⟩ := List.mem_iff_getElem?.1 hm
      rw [List.getElem?_take] at hj
      split at hj
      · exact h2 j ‹_› hj
      · cases hj
    · conv => lhs; rw [← List.take_append_drop k l, List.drop_eq_getElem_cons hlt, hv]

set_option maxHeartbeats 2000000 in
set_option maxRecDepth 100000 in
theorem cutLite_any (c : UInt8) (t : ByteArray) (w : World) (hs : t.size ≤ 140737488355328) :
    Calls Tryd.prog 23 #[.string t, .string ⟨#[c]⟩] w fun e w' => CutP c t e ∧ Below w.heap.size w w' := by
  have cI := fun W => Tryd.stringslite_Index_one t c W
  rcases byte_at t.data.toList c with ⟨h1, h2⟩ | ⟨k, h1, h2, h3, h4⟩
  · rw [h1] at cI
    have hfin : CutP c t (.returned (.tuple #[.string t, .string ⟨#[]⟩, .bool false])) := .inl ⟨h2, rfl⟩
    clear h1 h2
    have hfin' := Lib.hid hfin
    clear hfin
    go_enter Tryd.func23, Tryd.ntmps23
    go_wp2_with (go_at_call 26; refine (cI _).mono ?_; rintro e w' ⟨rfl, rfl⟩)
    go_ret3
    exact ⟨hfin'.out, Below.refl _ _⟩
  · rw [h1] at cI
    rw [← Lib.size_eq] at h2
    have e1 : (t.extract 0 k).data.toList = t.data.toList.take k := by rw [Lib.extract_data]; rfl
    have e2 : (t.extract (k + 1) t.size).data.toList = t.data.toList.drop (k + 1) := Lib.extract_to_end t (k + 1)
    have hfin : CutP c t (.returned (.tuple #[.string (t.extract 0 k), .string (t.extract (k + 1) t.size), .bool true])) :=
      .inr ⟨_, _, by rw [e1]; exact h3, by rw [e1, e2]; exact h4, rfl⟩
    clear h1 h3 h4 e1 e2
    have hfin' := Lib.hid hfin
    clear hfin
    have hw : IntKind.i64.wrap ((k : Int) + 1) = (k : Int) + 1 := IntWalk.i64_in _ (by omega)
    go_enter Tryd.func23, Tryd.ntmps23
    go_wp2_with (go_at_call 26; refine (cI _).mono ?_; rintro e w' ⟨rfl, rfl⟩)
    go_quiet (fail)
    go_wp2
    go_ret3
    exact ⟨hfin'.out, below_drewN _ (Below.refl _ _)⟩

set_option maxHeartbeats 2000000 in
set_option maxRecDepth 100000 in
theorem sCut_any (c : UInt8) (t : ByteArray) (w : World) (hs : t.size ≤ 140737488355328) :
    Calls Tryd.prog 18 #[.string t, .string ⟨#[c]⟩] w fun e w' => CutP c t e ∧ Below w.heap.size w w' := by
  go_enter Tryd.func18, Tryd.ntmps18
  go_wp2_with fail
  go_at_call 23
  refine (cutLite_any c t w hs).mono ?_
  rintro e w1 ⟨hc, hb⟩
  rcases hc with ⟨h1, rfl⟩ | ⟨a, r, h1, h2, rfl⟩
  · have hfin : CutP c t (.returned (.tuple #[.string t, .string ⟨#[]⟩, .bool false])) := .inl ⟨h1, rfl⟩
    have hfin' := Lib.hid hfin
    clear hfin h1
    go_wp2
    go_ret3
    exact ⟨hfin'.out, hb⟩
  · have hfin : CutP c t (.returned (.tuple #[.string a, .string r, .bool true])) := .inr ⟨a, r, h1, h2, rfl⟩
    have hfin' := Lib.hid hfin
    clear hfin h1 h2
    go_wp2
    go_ret3
    exact ⟨hfin'.out, hb⟩

end Go.Proofs.YtljacnedlgnldaaDoor.Sc
