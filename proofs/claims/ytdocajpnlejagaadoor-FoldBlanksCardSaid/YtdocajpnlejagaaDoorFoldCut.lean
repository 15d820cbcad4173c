/-
  WALKS OF fold.blank, strings.Cut at a line feed, fold.cutRow, fold.cutLine.
-/
import Derived.Test.YtdocajpnlejagaaDoorBuild
import Derived.Test.YtdocajpnlejagaaDoorFoldPlain
import Derived.BigQuiet
import Derived.Deep.QuietTactic
import Derived.Lib.IndexLaws
import Derived.IntWalk
set_option linter.unusedVariables false
namespace Go.Proofs.YtdocajpnlejagaaDoor.Fo
open Go.Lib Go.RowKit

theorem below_then {a b c : World} (h1 : Below a.heap.size a b) (h2 : Below b.heap.size b c) : Below a.heap.size a c := h1.trans (h2.mono h1.size)

theorem below_drewN {a w : World} (n : Nat) (h : Below a.heap.size a w) : Below a.heap.size a (w.drewN n) := ⟨h.os, h.tape, h.output, h.size, h.block⟩

set_option maxHeartbeats 1000000 in
set_option maxRecDepth 100000 in
theorem blank_any (x : UInt8) (w : World) : Calls Tryd.prog 18 #[.int .u8 (x.toNat : Int)] w fun e w' => e = .returned (.bool (bl x)) ∧ w = w' := by
  unfold bl
  generalize x.toNat = v
  by_cases c1 : v = 32
  · have d1 : ((v : Int) == 32) = true := by simp; omega
    rw [decide_eq_true (.inl c1)]
    clear c1
    go_enter Tryd.func18, Tryd.ntmps18
    go_wp2
    go_ret
    exact ⟨rfl, rfl⟩
  · have d1 : ((v : Int) == 32) = false := by simp; omega
    by_cases c2 : v = 9
    · have d2 : ((v : Int) == 9) = true := by simp; omega
      rw [decide_eq_true (.inr c2)]
      clear c1 c2
      go_enter Tryd.func18, Tryd.ntmps18
      go_wp2
      go_ret
      exact ⟨rfl, rfl⟩
    · have d2 : ((v : Int) == 9) = false := by simp; omega
      rw [decide_eq_false (by omega)]
      clear c1 c2
      go_enter Tryd.func18, Tryd.ntmps18
      go_wp2
      go_ret
      exact ⟨rfl, rfl⟩

/-- what strings.Cut at a line feed answers -/
def CutP (t : ByteArray) (e : Ending) : Prop :=
  (10 ∉ t.data.toList ∧ e = .returned (.tuple #[.string t, .string ⟨#[]⟩, .bool false])) ∨
  ∃ a r : ByteArray, 10 ∉ a.data.toList ∧ t.data.toList = a.data.toList ++ 10 :: r.data.toList ∧ e = .returned (.tuple #[.string a, .string r, .bool true])

theorem byte_at (l : List UInt8) (c : UInt8) : (indexByte l c = -1 ∧ c ∉ l) ∨ ∃ k : Nat, indexByte l c = k ∧ k < l.length ∧ c ∉ l.take k ∧ l = l.take k ++ c :: l.drop (k + 1) := by
  have hge := indexByte_ge l c
  by_cases h : indexByte l c = -1
  · left
    refine ⟨h, fun hm => ?_⟩
    obtain ⟨k, hk⟩ := List.mem_iff_getElem?.1 hm
    exact indexByte_none h k hk
  · right
    obtain ⟨k, hk⟩ : ∃ k : Nat, indexByte l c = k := ⟨(indexByte l c).toNat, by omega⟩
    obtain ⟨h1, h2⟩ := indexByte_some hk
    obtain ⟨hlt, hv⟩ := List.getElem?_eq_some_iff.1 h1
    refine ⟨k, hk, hlt, fun hm => ?_, ?_⟩
    · obtain ⟨j, hj⟩ := List.mem_iff_getElem?.1 hm
      rw [List.getElem?_take] at hj
      split at hj
      · exact h2 j ‹_› hj
      · cases hj
    · conv => lhs; rw [← List.take_append_drop k l, List.drop_eq_getElem_cons hlt, hv]

set_option maxHeartbeats 2000000 in
set_option maxRecDepth 100000 in
theorem cutLite_any (t : ByteArray) (w : World) (hs : t.size ≤ 140737488355328) :
    Calls Tryd.prog 34 #[.string t, .string ⟨#[10]⟩] w fun e w' => CutP t e ∧ Below w.heap.size w w' := by
  have cI := fun W => Tryd.stringslite_Index_one t 10 W
  rcases byte_at t.data.toList 10 with ⟨h1, h2⟩ | ⟨k, h1, h2, h3, h4⟩
  · rw [h1] at cI
    have hfin : CutP t (.returned (.tuple #[.string t, .string ⟨#[]⟩, .bool false])) := .inl ⟨h2, rfl⟩
    clear h1 h2
    have hfin' := Lib.hid hfin
    clear hfin
    go_enter Tryd.func34, Tryd.ntmps34
    go_wp2_with (go_at_call 43; refine (cI _).mono ?_; rintro e w' ⟨rfl, rfl⟩)
    go_ret3
    exact ⟨hfin'.out, Below.refl _ _⟩
  · rw [h1] at cI
    rw [← Lib.size_eq] at h2
    have e1 : (t.extract 0 k).data.toList = t.data.toList.take k := by rw [Lib.extract_data]; rfl
    have e2 : (t.extract (k + 1) t.size).data.toList = t.data.toList.drop (k + 1) := Lib.extract_to_end t (k + 1)
    have hfin : CutP t (.returned (.tuple #[.string (t.extract 0 k), .string (t.extract (k + 1) t.size), .bool true])) :=
      .inr ⟨_, _, by rw [e1]; exact h3, by rw [e1, e2]; exact h4, rfl⟩
    clear h1 h3 h4 e1 e2
    have hfin' := Lib.hid hfin
    clear hfin
    have hw : IntKind.i64.wrap ((k : Int) + 1) = (k : Int) + 1 := IntWalk.i64_in _ (by omega)
    go_enter Tryd.func34, Tryd.ntmps34
    go_wp2_with (go_at_call 43; refine (cI _).mono ?_; rintro e w' ⟨rfl, rfl⟩)
    go_quiet (fail)
    go_wp2
    go_ret3
    exact ⟨hfin'.out, below_drewN _ (Below.refl _ _)⟩

set_option maxHeartbeats 2000000 in
set_option maxRecDepth 100000 in
theorem cut_any (t : ByteArray) (w : World) (hs : t.size ≤ 140737488355328) :
    Calls Tryd.prog 25 #[.string t, .string ⟨#[10]⟩] w fun e w' => CutP t e ∧ Below w.heap.size w w' := by
  go_enter Tryd.func25, Tryd.ntmps25
  go_wp2_with fail
  go_at_call 34
  refine (cutLite_any t w hs).mono ?_
  rintro e w1 ⟨hc, hb⟩
  rcases hc with ⟨h1, rfl⟩ | ⟨a, r, h1, h2, rfl⟩
  · have hfin : CutP t (.returned (.tuple #[.string t, .string ⟨#[]⟩, .bool false])) := .inl ⟨h1, rfl⟩
    have hfin' := Lib.hid hfin
    clear hfin h1
    go_wp2
    go_ret3
    exact ⟨hfin'.out, hb⟩
  · have hfin : CutP t (.returned (.tuple #[.string a, .string r, .bool true])) := .inr ⟨a, r, h1, h2, rfl⟩
    have hfin' := Lib.hid hfin
    clear hfin h1 h2
    go_wp2
    go_ret3
    exact ⟨hfin'.out, hb⟩

theorem trim_any (s : ByteArray) (w : World) (hs : s.size ≤ 9223372036854775807) :
    Calls Tryd.prog 26 #[.string s, .string ⟨#[13]⟩] w fun e w' => (∃ r : ByteArray, r.data.toList = stripR s.data.toList ∧ e = .returned (.string r)) ∧ w = w' :=
  (Tryd.strings_TrimSuffix s ⟨#[13]⟩ w hs).mono fun e w' ⟨h1, h2⟩ => ⟨⟨_, by simp [stripR], h1⟩, h2.symm⟩
theorem has13_any (s : ByteArray) (v : Bool) (w : World) (hv : s.data.toList.contains 13 = v) :
    Calls Tryd.prog 27 #[.string s, .string ⟨#[13]⟩] w fun e w' => e = .returned (.bool v) ∧ w = w' :=
  (Tryd.strings_Contains_one s 13 w).mono fun e w' ⟨h1, h2⟩ => ⟨by
    rw [h1, ← hv]
    rcases byte_at s.data.toList 13 with ⟨g1, g2⟩ | ⟨k, g1, g2, _, g4⟩
    · rw [g1]
      have : s.data.toList.contains 13 = false := by simpa using g2
      rw [this]; rfl
    · rw [g1]
      have : s.data.toList.contains 13 = true := by rw [g4]; simp
      rw [this, decide_eq_true (by omega)], h2.symm⟩

/-- what cutRow answers -/
def CutRowP (t : ByteArray) (e : Ending) : Prop :=
  (e = .returned (.tuple #[.string ⟨#[]⟩, .string ⟨#[]⟩, .bool false]) ∧ ∀ out, R out t.data.toList = none) ∨
  ∃ a r row : ByteArray, 10 ∉ a.data.toList ∧ t.data.toList = a.data.toList ++ 10 :: r.data.toList ∧ row.data.toList = stripR a.data.toList ∧ okRow row.data.toList = true ∧ e = .returned (.tuple #[.string row, .string r, .bool true])

theorem nonempty_of (s : ByteArray) (h : s.data.toList ≠ []) : s.toList.isEmpty = false := by
  rw [Lib.toList_data]
  cases h' : s.data.toList with
  | nil => exact absurd h' h
  | cons _ _ => rfl
theorem empty_of (s : ByteArray) (h : s.data.toList = []) : s.toList.isEmpty = true := by rw [Lib.toList_data, h]; rfl

set_option maxHeartbeats 2000000 in
set_option maxRecDepth 100000 in
theorem cutRow_any (t : ByteArray) (w : World) (hs : t.size ≤ 140737488355328) (hne : t.data.toList ≠ []) :
    Calls Tryd.prog 20 #[.string t] w fun e w' => CutRowP t e ∧ Below w.heap.size w w' := by
  have hne' := Lib.hid hne
  clear hne
  go_enter Tryd.func20, Tryd.ntmps20
  go_wp2_with fail
  go_at_call 25
  refine (cut_any t w hs).mono ?_
  rintro e w1 ⟨hc, hb⟩
  rcases hc with ⟨h1, rfl⟩ | ⟨a, r, h1, h2, rfl⟩
  · have hfin : CutRowP t (.returned (.tuple #[.string ⟨#[]⟩, .string ⟨#[]⟩, .bool false])) := .inl ⟨rfl, fun out => R_free out _ h1 hne'.out⟩
    have hfin' := Lib.hid hfin
    clear hfin h1
    go_wp2_with fail
    go_at_call 26
    refine (trim_any t w1 (by omega)).mono ?_
    rintro e w2 ⟨⟨row, hr, rfl⟩, rfl⟩
    clear hr
    go_wp2
    go_ret3
    exact ⟨hfin'.out, hb⟩
  · have hbad : (okRow (stripR a.data.toList) = false) → CutRowP t (.returned (.tuple #[.string ⟨#[]⟩, .string ⟨#[]⟩, .bool false])) := fun h =>
      .inl ⟨rfl, fun out => by rw [h2, R_cut out _ _ h1, gstep_bad out _ h]; rfl⟩
    have hgood : ∀ row : ByteArray, row.data.toList = stripR a.data.toList → okRow row.data.toList = true → CutRowP t (.returned (.tuple #[.string row, .string r, .bool true])) := fun row hr hk =>
      .inr ⟨a, r, row, h1, h2, hr, hk, rfl⟩
    have ha : a.size ≤ 9223372036854775807 := by
      have : t.data.toList.length = a.data.toList.length + (r.data.toList.length + 1) := by rw [h2]; simp
      rw [← Lib.size_eq, ← Lib.size_eq] at this
      omega
    have hbad' := Lib.hid hbad
    have hgood' := Lib.hid hgood
    clear hbad hgood h1 h2
    go_wp2_with fail
    go_at_call 26
    refine (trim_any a w1 ha).mono ?_
    rintro e w2 ⟨⟨row, hr, rfl⟩, rfl⟩
    by_cases h0 : row.data.toList = []
    · have hfin := hbad'.out (by rw [← hr, h0]; rfl)
      have he := empty_of row h0
      have he2 : (!row.toList.isEmpty) = false := by rw [he]; rfl
      have hfin' := Lib.hid hfin
      clear hfin h0 hr
      go_wp2
      go_ret3
      exact ⟨hfin'.out, hb⟩
    · have he := nonempty_of row h0
      cases hv : row.data.toList.contains 13
      · have hfin := hgood'.out row hr (by unfold okRow; rw [hv]; rw [Lib.toList_data] at he; rw [he]; rfl)
        have hfin' := Lib.hid hfin
        have c13 := fun W => has13_any row false W hv
        clear hfin h0 hr hv
        go_wp2_with (go_at_call 27; refine (c13 _).mono ?_; rintro e w' ⟨rfl, rfl⟩)
        go_ret3
        exact ⟨hfin'.out, hb⟩
      · have hfin := hbad'.out (by rw [← hr]; unfold okRow; rw [hv]; simp)
        have hfin' := Lib.hid hfin
        have c13 := fun W => has13_any row true W hv
        clear hfin h0 hr hv
        go_wp2_with (go_at_call 27; refine (c13 _).mono ?_; rintro e w' ⟨rfl, rfl⟩)
        go_ret3
        exact ⟨hfin'.out, hb⟩
end Go.Proofs.YtdocajpnlejagaaDoor.Fo
