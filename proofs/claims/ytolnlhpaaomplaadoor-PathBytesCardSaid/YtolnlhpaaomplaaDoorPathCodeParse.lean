/-
  THE WALK OF path.Parse.
-/
import Derived.Test.YtolnlhpaaomplaaDoorPathCodeOf
import Derived.Test.YtolnlhpaaomplaaDoorStrCut
set_option linter.unusedVariables false
namespace Go.Proofs.YtolnlhpaaomplaaDoor.Pa
open Go.Lib Go.RowKit

theorem pre_hit (c : UInt8) (t : List UInt8) (h : c = 47) : Lib.hasPrefix (c :: t) [47] = true ∧ Lib.trimPrefix (c :: t) [47] = t := by
  subst h
  exact ⟨by simp [Lib.hasPrefix], by simp [Lib.trimPrefix, Lib.hasPrefix]⟩
theorem pre_miss (c : UInt8) (t : List UInt8) (h : c ≠ 47) : Lib.hasPrefix (c :: t) [47] = false ∧ Lib.trimPrefix (c :: t) [47] = c :: t := by
  have h1 : Lib.hasPrefix (c :: t) [47] = false := by
    show ((47 : UInt8) == c && true) = false
    rw [beq_eq_false_iff_ne.2 (fun e => h e.symm)]; rfl
  exact ⟨h1, by unfold Lib.trimPrefix; rw [h1]; rfl⟩
/-- strings.CutPrefix at one mark -/
def PreP (t : ByteArray) (e : Ending) : Prop :=
  ((∀ u, t.data.toList ≠ 47 :: u) ∧ e = .returned (.tuple #[.string t, .bool false])) ∨ ∃ r : ByteArray, t.data.toList = 47 :: r.data.toList ∧ e = .returned (.tuple #[.string r, .bool true])
theorem pre_any (t : ByteArray) (w : World) : Calls Tryd.prog 20 #[.string t, .string ⟨#[47]⟩] w fun e w' => PreP t e ∧ w' = w := by
  refine (Tryd.strings_CutPrefix t ⟨#[47]⟩ w).mono ?_
  rintro e w' ⟨rfl, rfl⟩
  refine ⟨?_, rfl⟩
  cases ht : t.data.toList with
  | nil =>
    left
    have h0 : t = ⟨#[]⟩ := data_is ht
    rw [h0]
    exact ⟨fun u e => (by cases e), rfl⟩
  | cons c u =>
    by_cases hc : c = 47
    · obtain ⟨h1, h2⟩ := pre_hit c u hc
      right
      refine ⟨⟨u.toArray⟩, by rw [ht, hc], ?_⟩
      show Ending.returned (.tuple #[.string ⟨(Lib.trimPrefix (c :: u) [47]).toArray⟩, .bool (Lib.hasPrefix (c :: u) [47])]) = _
      rw [h1, h2]
    · obtain ⟨h1, h2⟩ := pre_miss c u hc
      left
      refine ⟨fun v e => by rw [ht] at e; injection e with e1 _; exact hc e1, ?_⟩
      show Ending.returned (.tuple #[.string ⟨(Lib.trimPrefix (c :: u) [47]).toArray⟩, .bool (Lib.hasPrefix (c :: u) [47])]) = _
      rw [h1, h2, ← ht, data_is (x := ⟨t.data.toList.toArray⟩) (y := t) (by simp)]

set_option maxHeartbeats 4000000 in
set_option maxRecDepth 100000 in
theorem parse_any : ParseC := fun s w hs hT => by
  have hs' := hs
  unfold mostS at hs'
  have cR : ∀ W, Calls Tryd.prog 15 #[] W fun e w' => e = .returned (.string ⟨#[47]⟩) ∧ Below W.heap.size W w' := root_any
  by_cases h1 : s.data.toList = [47]
  · have hf := Lib.hid (show ParseP s.data.toList (.returned (.tuple #[.string ⟨#[]⟩, .string ⟨#[]⟩, .int .i64 0])) from .inr ⟨⟨#[]⟩, ⟨#[]⟩, by rw [h1]; rfl, rfl⟩)
    have e1 : (s.toList == [47]) = true := by rw [Lib.toList_data, h1]; rfl
    have e1' : s.toList = [47] := by rw [Lib.toList_data, h1]
    clear hT h1
    go_enter Tryd.func13, Tryd.ntmps13
    go_wp2_with fail
    go_at_call 15
    with_reducible refine (cR _).mono ?_
    rintro e w2 ⟨rfl, hb2⟩
    have hb2' := Lib.hid hb2
    clear hb2 cR
    go_wp2
    go_ret3
    exact ⟨hf.out, hb2'.out⟩
  · have e1 : (s.toList == [47]) = false := by rw [Lib.toList_data]; exact beq_eq_false_iff_ne.2 h1
    have e1' : ¬ s.toList = [47] := by rw [Lib.toList_data]; exact h1
    have h1' := Lib.hid h1
    have cP := fun W => pre_any s W
    have cT := Lib.hid (fun (x : ByteArray) (W : World) (hx : x.size ≤ mostS) (hW : Below w.heap.size w W) => text_any' x W hx (Ch.tabs_below hT hW))
    clear hT h1
    go_enter Tryd.func13, Tryd.ntmps13
    go_wp2_with fail
    go_at_call 15
    with_reducible refine (cR _).mono ?_
    rintro e w2 ⟨rfl, hb2⟩
    have hb2' := Lib.hid hb2
    clear hb2
    go_wp2_with fail
    go_at_call 15
    with_reducible refine (cR _).mono ?_
    rintro e w3 ⟨rfl, hb3⟩
    have hb3' := Lib.hid (below_then hb2'.out hb3)
    clear hb3 cR hb2'
    go_wp2_with fail
    go_at_call 20
    refine (cP _).mono ?_
    rintro e w4 ⟨hp, hw4⟩
    subst hw4
    clear cP
    rcases hp with ⟨hno, rfl⟩ | ⟨t, hcons, rfl⟩
    · have hf := Lib.hid (show ParseP s.data.toList (.returned (.tuple #[.string ⟨#[]⟩, .string ⟨#[]⟩, .int .i64 60])) from .inl ⟨parse_head hno, rfl⟩)
      have cC := Sc.sCut_any 47 s w4 hs'
      clear hno cT
      go_wp2_with fail
      go_at_call 21
      refine cC.mono ?_
      rintro e w5 ⟨hp, hb5⟩
      have hb5' := Lib.hid (below_then hb3'.out hb5)
      clear hb5 cC
      rcases hp with ⟨_, rfl⟩ | ⟨a, r, _, _, rfl⟩
      all_goals
        go_wp2
        go_ret3
        exact ⟨hf.out, hb5'.out⟩
    · have ht0 : t.data.toList ≠ [] := fun e => h1'.out (by rw [hcons, e])
      have hts : t.size ≤ 140737488355328 := by
        have := congrArg List.length hcons
        rw [List.length_cons, ← Lib.size_eq, ← Lib.size_eq] at this
        omega
      have cC := Sc.sCut_any 47 t w4 hts
      have hcons' := Lib.hid hcons
      have ht0' := Lib.hid ht0
      clear hcons ht0
      go_wp2_with fail
      go_at_call 21
      refine cC.mono ?_
      rintro e w2 ⟨hp, hb2⟩
      have hb2 := below_then hb3'.out hb2
      rcases hp with ⟨hno, rfl⟩ | ⟨a, r, hna, hcut, rfl⟩
      · have hf := Lib.hid (show ParseP s.data.toList (.returned (.tuple #[.string ⟨#[]⟩, .string ⟨#[]⟩, .int .i64 60])) from .inl ⟨parse_one hcons'.out ht0'.out (fun x hx e => hno (e ▸ hx)), rfl⟩)
        have hb2' := Lib.hid hb2
        clear hno hb2 cC
        go_wp2
        go_ret3
        exact ⟨hf.out, hb2'.out⟩
      · have hpar := Lib.hid (parse_cut hcons'.out hcut (fun x hx e => hna (e ▸ hx)))
        have hls := congrArg List.length hcut
        rw [List.length_append, List.length_cons, ← Lib.size_eq, ← Lib.size_eq, ← Lib.size_eq] at hls
        have c1 := cT.out a w2 (by unfold mostS; omega) hb2
        have hrs : r.size ≤ mostS := by unfold mostS; omega
        have hb2' := Lib.hid hb2
        clear hna hcut hls hb2 cC
        go_wp2_with fail
        go_at_call 22
        with_reducible refine c1.mono ?_
        rintro e w3 ⟨hp, hb3⟩
        have hb3' := below_then hb2'.out hb3
        have c2 := cT.out r w3 hrs hb3'
        have hb3'' := Lib.hid hb3'
        clear c1 hb3 hb3'
        rcases hp with ⟨hno, rfl⟩ | ⟨x, hx, rfl⟩
        · have hf := Lib.hid (show ParseP s.data.toList (.returned (.tuple #[.string ⟨#[]⟩, .string ⟨#[]⟩, .int .i64 60])) from .inl ⟨by rw [hpar.out]; unfold parse2; rw [hno]; rfl, rfl⟩)
          clear hno c2
          go_wp2
          go_ret3
          exact ⟨hf.out, hb3''.out⟩
        · have hx' := Lib.hid hx
          clear hx
          by_cases hr0 : r.data.toList = []
          · have e2 := empty_of r hr0
            have hf := Lib.hid (show ParseP s.data.toList (.returned (.tuple #[.string x, .string ⟨#[]⟩, .int .i64 0])) from .inr ⟨x, ⟨#[]⟩, by
              rw [hpar.out]; unfold parse2
              show (textS a.data.toList).bind _ = _
              rw [hx'.out, Option.bind_some, if_pos hr0], rfl⟩)
            clear hr0 c2
            go_wp2
            go_ret3
            exact ⟨hf.out, hb3''.out⟩
          · have e2 := nonempty_of r hr0
            have hr0' := Lib.hid hr0
            clear hr0
            go_wp2_with fail
            go_at_call 22
            with_reducible refine c2.mono ?_
            rintro e w4 ⟨hp, hb4⟩
            have hB := Lib.hid (below_then hb3''.out hb4)
            clear c2 hb4
            rcases hp with ⟨hno, rfl⟩ | ⟨y, hy, rfl⟩
            · have hf := Lib.hid (show ParseP s.data.toList (.returned (.tuple #[.string ⟨#[]⟩, .string ⟨#[]⟩, .int .i64 60])) from .inl ⟨by
                rw [hpar.out]; unfold parse2
                show (textS a.data.toList).bind _ = _
                rw [hx'.out, Option.bind_some, if_neg hr0'.out]
                show (textS r.data.toList).map _ = _
                rw [hno]; rfl, rfl⟩)
              clear hno
              go_wp2
              go_ret3
              exact ⟨hf.out, hB.out⟩
            · have hf := Lib.hid (show ParseP s.data.toList (.returned (.tuple #[.string x, .string y, .int .i64 0])) from .inr ⟨x, y, by
                rw [hpar.out]; unfold parse2
                show (textS a.data.toList).bind _ = _
                rw [hx'.out, Option.bind_some, if_neg hr0'.out]
                show (textS r.data.toList).map _ = _
                rw [hy]; rfl, rfl⟩)
              clear hy
              go_wp2
              go_ret3
              exact ⟨hf.out, hB.out⟩
end Go.Proofs.YtolnlhpaaomplaaDoor.Pa
