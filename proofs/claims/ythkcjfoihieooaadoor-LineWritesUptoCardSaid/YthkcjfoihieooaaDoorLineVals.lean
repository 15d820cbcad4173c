/-
  WALKS OF line.cutValues, cutParam.
-/
import Derived.Test.YthkcjfoihieooaaDoorLineCut
import Derived.Test.YthkcjfoihieooaaDoorLineMem
set_option linter.unusedVariables false
namespace Go.Proofs.YthkcjfoihieooaaDoor.Li
open Go.Lib Go.RowKit Bu

/-- what cutValues answers -/
def ValsP (B : Nat) (t : Row) (e : Ending) (w' : World) : Prop :=
  (vals t = none ∧ e = .returned (.tuple #[.slice none 0 0, .string ⟨#[]⟩, .bool false])) ∨
  ∃ (v : Value) (out : List Row) (r : ByteArray), vals t = some (out, r.data.toList) ∧ e = .returned (.tuple #[v, .string r, .bool true]) ∧ Own B v out w'
def strLen : Value → Nat
  | .string s => s.size
  | _ => 0
def bit : Value → Nat
  | .bool true => 1
  | _ => 0
def ValsRel (T : ByteArray) (w : World) (s0 s2 s5 : Value) (wr : World) : Prop :=
  ∃ (t : ByteArray) (out : List Row) (m : Bool) (v : Value), s0 = .string t ∧ v = s2 ∧ s5 = .bool m ∧ Own w.heap.size s2 out wr ∧ Below w.heap.size w wr ∧ out.length + t.size ≤ T.size + 1 ∧ t.size ≤ T.size ∧
    (m = true → vals T.data.toList = (vals t.data.toList).map fun p => (out ++ p.1, p.2)) ∧ (m = false → vals T.data.toList = some (out, t.data.toList)) ∧ (m = true → out.length + t.size ≤ T.size)

set_option maxHeartbeats 4000000 in
set_option maxRecDepth 100000 in
theorem cutValues_any (T : ByteArray) (w : World) (hs : T.size ≤ 1099511627776) :
    Calls Tryd.prog 62 #[.string T] w fun e w' => ValsP w.heap.size T.data.toList e w' ∧ Below w.heap.size w w' := by
  obtain ⟨i0, hi, hz0, hz1, hz2⟩ := info_parts infoStr
  go_enter Tryd.func62, Tryd.ntmps62
  go_wp2
  go_loopw [0, 2, 5] (fun s0 s2 s5 wr => ValsRel T w s0 s2 s5 wr) (fun s0 s2 s5 wr => strLen s0 + bit s5)
  case atStart =>
    refine ⟨T, [], true, _, rfl, rfl, rfl, Own.nil _ _, Below.refl _ _, by simp, Nat.le_refl _, fun _ => ?_, (fun h => by cases h), fun _ => by simp⟩
    simp
  case round =>
    obtain ⟨t, out, m, s2, rfl, rfl, rfl, hown, hbw, hL, hT, hm1, hm2, hm3⟩ := hrel
    cases m
    · have hfin : ValsP w.heap.size T.data.toList (.returned (.tuple #[s2, .string t, .bool true])) wr := .inr ⟨s2, out, t, hm2 rfl, rfl, hown⟩
      have hfin' := Lib.hid hfin
      clear hfin hm1 hm2 hm3 hown
      go_wp2
      go_ret3
      exact ⟨hfin'.out, hbw⟩
    · have hR := Lib.hid (hm1 rfl)
      have hL3 := hm3 rfl
      clear hm1 hm2 hm3 hL
      go_wp2_with fail
      go_at_call 71
      refine (cutValue_any t wr (by omega)).mono ?_
      rintro e w1 ⟨hc, hb1⟩
      rcases hc with ⟨h1, a, r, rfl⟩ | ⟨a, r, h1, rfl⟩
      · have hfin : ValsP w.heap.size T.data.toList (.returned (.tuple #[.slice none 0 0, .string ⟨#[]⟩, .bool false])) w1 := .inl ⟨by rw [hR.out, vals_none h1]; rfl, rfl⟩
        have hfin' := Lib.hid hfin
        clear hfin h1
        go_wp2
        go_ret3
        exact ⟨hfin'.out, below_then hbw hb1⟩
      · have hlen := (rawC_tells h1).2
        have hla : a.size ≤ T.size := by
          obtain ⟨⟨p, q, e, _⟩, _⟩ := rawC_tells h1
          have := congrArg List.length e
          simp only [List.length_append] at this
          rw [Lib.size_eq a]
          have := Lib.size_eq t
          omega
        rw [← Lib.size_eq, ← Lib.size_eq] at hlen
        have cM := meant_any a w1 (by omega)
        have h1' := Lib.hid h1
        have hown1 : Own w.heap.size s2 out w1 := hown.kept hb1
        have hbw1 := below_then hbw hb1
        clear h1 hown hbw hb1
        go_wp2_with fail
        go_at_call 72
        refine cM.mono ?_
        rintro e w2 ⟨rfl, hb2⟩
        have hown2 : Own w.heap.size s2 out w2 := hown1.kept hb2
        have hbw2 := below_then hbw1 hb2
        clear hown1 hbw1 hb2 cM
        unfold Own at hown2
        go_wp2_with (at_builtin; refine wpList_append_own _ rfl _ _ 38 rfl w.heap.size 9 i0 (.string ⟨#[]⟩) 1 16 Tryd.underlying38 hi hz0 hz1 hz2 rfl (by decide) _ _ _ rfl (hown2.alloc _) ⟨w2.heap.size, 0, none⟩ 1 1 [.string ⟨(mean a.data.toList).toArray⟩] rfl rfl ?c1 ?c2 ?c3 ?c4 ?c5 ?_)
        case c1 =>
          intro j u hj
          match j, hj with
          | 0, hj => simp at hj; subst hj; simp [Addr.add]
        case c2 => intro u hu; simp at hu; subst hu; rfl
        case c3 => unfold maxLen; omega
        case c4 => omega
        case c5 => have := hbw2.size; simp; omega
        intro v' w3 hown' hgrow _
        have hown3 : Own w.heap.size v' (out ++ [mean a.data.toList]) w3 := by
          unfold Own
          rw [List.map_append, List.length_append]
          simpa [sv] using hown'
        have hbw3 : Below w.heap.size w w3 := (hbw2.alloc hbw2.size _).grown hgrow (by have := hbw2.size; simp; omega) (fun k hk => (hown2.lt k hk).1)
        clear hown' hgrow hown2 hbw2
        by_cases h44 : r.data.toList.head? = some 44
        · have hC := cutPre_any r 44 w3
          have hstep := Lib.hid (vals_more h1'.out h44)
          have hr1 := tail_lt h44
          have hol : (out ++ [mean a.data.toList]).length = out.length + 1 := by simp
          obtain ⟨out2, hout2⟩ : ∃ o, out ++ [mean a.data.toList] = o := ⟨_, rfl⟩
          rw [hout2] at hown3 hol
          have hol' := Lib.hid hol
          have hr1' := Lib.hid hr1
          have hout2' := Lib.hid hout2
          have h44' := Lib.hid h44
          clear h44 hol hr1 hout2
          go_wp2_with fail
          go_at_call 24
          refine hC.mono ?_
          rintro e w4 ⟨hc, rfl⟩
          rcases hc with ⟨h5, rfl⟩ | ⟨h5, q, hq, rfl⟩
          · exact absurd h44'.out h5
          · have hR2 : vals T.data.toList = (vals q.data.toList).map fun p => (out2 ++ p.1, p.2) := by
              rw [hR.out, hstep.out, hq, ← hout2'.out]
              cases vals r.data.toList.tail with
              | none => rfl
              | some p => simp
            have hqs : q.size < r.size := by rw [Lib.size_eq, Lib.size_eq, hq]; exact hr1'.out
            have hR2' := Lib.hid hR2
            clear h5 hq hR2 hC
            go_wp2
            go_roundw
            case rel => exact ⟨q, out2, true, _, rfl, rfl, rfl, hown3, hbw3, by have := hol'.out; omega, by omega, fun _ => hR2'.out, (fun h => by cases h), fun _ => by have := hol'.out; omega⟩
            case measure => simp only [strLen, bit]; omega
        · have hC := cutPre_any r 44 w3
          have hstep := Lib.hid (vals_last h1'.out h44)
          have hol : (out ++ [mean a.data.toList]).length = out.length + 1 := by simp
          obtain ⟨out2, hout2⟩ : ∃ o, out ++ [mean a.data.toList] = o := ⟨_, rfl⟩
          rw [hout2] at hown3 hol
          have hol' := Lib.hid hol
          have hout2' := Lib.hid hout2
          have h44' := Lib.hid h44
          clear h44 hol hout2
          go_wp2_with fail
          go_at_call 24
          refine hC.mono ?_
          rintro e w4 ⟨hc, rfl⟩
          rcases hc with ⟨h5, rfl⟩ | ⟨h5, q, hq, rfl⟩
          · have hR2 : vals T.data.toList = some (out2, r.data.toList) := by
              rw [hR.out, hstep.out, ← hout2'.out]; rfl
            have hR2' := Lib.hid hR2
            clear h5 hR2 hC
            go_wp2
            go_roundw
            case rel => exact ⟨r, out2, false, _, rfl, rfl, rfl, hown3, hbw3, by have := hol'.out; omega, by omega, (fun h => by cases h), fun _ => hR2'.out, (fun h => by cases h)⟩
            case measure => simp only [strLen, bit]; omega
          · exact absurd h5 h44'.out
end Go.Proofs.YthkcjfoihieooaaDoor.Li
