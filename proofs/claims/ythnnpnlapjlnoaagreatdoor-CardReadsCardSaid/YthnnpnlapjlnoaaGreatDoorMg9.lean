import Derived.Test.YthnnpnlapjlnoaaGreatDoorMg8
import Derived.Test.YthnnpnlapjlnoaaGreatDoorMg7
import Derived.Lib.Hide

/-
  WALKS OF line.cutValues, cutParam.
-/
set_option linter.unusedVariables false
namespace Go.Proofs.YthnnpnlapjlnoaaGreatDoor.Li
open Go.Lib Go.RowKit Bu

/-- what cutValues answers -/
def ValsP (B : Nat) (t : Row) (e : Ending) (w' : World) : Prop :=
  (vals t = none ∧ e = .returned (.tuple #[.slice none 0 0, .string ⟨#[]⟩, .bool false])) ∨
  ∃ (v : Value) (out : List Row) (r : ByteArray), vals t = some (out, r.data.toList) ∧ e = .returned (.tuple #[v, .string r, .bool true]) ∧ Own B v out w'
def strLen : Value → Nat
  | .string s => s.size
  | _ => 0
def bit : Value → Nat
  | .bool true => 1
  | _ => 0
def ValsRel (T : ByteArray) (w : World) (s0 s2 s5 : Value) (wr : World) : Prop :=
  ∃ (t : ByteArray) (out : List Row) (m : Bool) (v : Value), s0 = .string t ∧ v = s2 ∧ s5 = .bool m ∧ Own w.heap.size s2 out wr ∧ Below w.heap.size w wr ∧ out.length + t.size ≤ T.size + 1 ∧ t.size ≤ T.size ∧
    (m = true → vals T.data.toList = (vals t.data.toList).map fun p => (out ++ p.1, p.2)) ∧ (m = false → vals T.data.toList = some (out, t.data.toList)) ∧ (m = true → out.length + t.size ≤ T.size)

set_option maxHeartbeats 4000000 in
set_option maxRecDepth 100000 in
theorem cutValues_any (T : ByteArray) (w : World) (hs : T.size ≤ 1099511627776) :
    Calls Tryz.prog 126 #[.string T] w fun e w' => ValsP w.heap.size T.data.toList e w' ∧ Below w.heap.size w w' := by
  obtain ⟨i0, hi, hz0, hz1, hz2⟩ := info_parts infoStr
  go_enter Tryz.func126, Tryz.ntmps126
  go_wp2
  go_loopw [0, 2, 5] (fun s0 s2 s5 wr => ValsRel T w s0 s2 s5 wr) (fun s0 s2 s5 wr => strLen s0 + bit s5)
  case atStart =>
    refine ⟨T, [], true, _, rfl, rfl, rfl, Own.nil _ _, Below.refl _ _, by simp, Nat.le_refl _, fun _ => ?_, (fun h => by cases h), fun _ => by simp⟩
    simp
  case round =>
    obtain ⟨t, out, m, s2, rfl, rfl, rfl, hown, hbw, hL, hT, hm1, hm2, hm3⟩ := hrel
    cases m
    · have hfin : ValsP w.heap.size T.data.toList (.returned (.tuple #[s2, .string t, .bool true])) wr := .inr ⟨s2, out, t, hm2 rfl, rfl, hown⟩
      have hfin' := Lib.hid hfin
      clear hfin hm1 hm2 hm3 hown
      go_wp2
      go_ret3
      exact ⟨hfin'.out, hbw⟩
    · have hR := Lib.hid (hm1 rfl)
      have hL3 := hm3 rfl
      clear hm1 hm2 hm3 hL
      go_wp2_with fail
      go_at_call 142
      refine (cutValue_any t wr (by omega)).mono ?_
      rintro e w1 ⟨hc, hb1⟩
      rcases hc with ⟨h1, a, r, rfl⟩ | ⟨a, r, h1, rfl⟩
      · have hfin : ValsP w.heap.size T.data.toList (.returned (.tuple #[.slice none 0 0, .string ⟨#[]⟩, .bool false])) w1 := .inl ⟨by rw [hR.out, vals_none h1]; rfl, rfl⟩
        have hfin' := Lib.hid hfin
        clear hfin h1
        go_wp2
        go_ret3
        exact ⟨hfin'.out, below_then hbw hb1⟩
      · have hlen := (rawC_tells h1).2
        have hla : a.size ≤ T.size := by
          obtain ⟨⟨p, q, e, _⟩, _⟩ := rawC_tells h1
          have := congrArg List.length e
          simp only [List.length_append] at this
          rw [Lib.size_eq a]
          have := Lib.size_eq t
          omega
        rw [← Lib.size_eq, ← Lib.size_eq] at hlen
        have cM := meant_any a w1 (by omega)
        have h1' := Lib.hid h1
        have hown1 : Own w.heap.size s2 out w1 := hown.kept hb1
        have hbw1 := below_then hbw hb1
        clear h1 hown hbw hb1
        go_wp2_with fail
        go_at_call 143
        refine cM.mono ?_
        rintro e w2 ⟨rfl, hb2⟩
        have hown2 : Own w.heap.size s2 out w2 := hown1.kept hb2
        have hbw2 := below_then hbw1 hb2
        clear hown1 hbw1 hb2 cM
        unfold Own at hown2
        go_wp2_with (at_builtin; refine wpList_append_own _ rfl _ _ 45 rfl w.heap.size 9 i0 (.string ⟨#[]⟩) 1 16 Tryz.underlying45 hi hz0 hz1 hz2 rfl (by decide) _ _ _ rfl (hown2.alloc _) ⟨w2.heap.size, 0, none⟩ 1 1 [.string ⟨(mean a.data.toList).toArray⟩] rfl rfl ?c1 ?c2 ?c3 ?c4 ?c5 ?_)
        case c1 =>
          intro j u hj
          match j, hj with
          | 0, hj => simp at hj; subst hj; simp [Addr.add]
        case c2 => intro u hu; simp at hu; subst hu; rfl
        case c3 => unfold maxLen; omega
        case c4 => omega
        case c5 => have := hbw2.size; simp; omega
        intro v' w3 hown' hgrow _
        have hown3 : Own w.heap.size v' (out ++ [mean a.data.toList]) w3 := by
          unfold Own
          rw [List.map_append, List.length_append]
          simpa [sv] using hown'
        have hbw3 : Below w.heap.size w w3 := (hbw2.alloc hbw2.size _).grown hgrow (by have := hbw2.size; simp; omega) (fun k hk => (hown2.lt k hk).1)
        clear hown' hgrow hown2 hbw2
        by_cases h44 : r.data.toList.head? = some 44
        · have hC := cutPre_any r 44 w3
          have hstep := Lib.hid (vals_more h1'.out h44)
          have hr1 := tail_lt h44
          have hol : (out ++ [mean a.data.toList]).length = out.length + 1 := by simp
          obtain ⟨out2, hout2⟩ : ∃ o, out ++ [mean a.data.toList] = o := ⟨_, rfl⟩
          rw [hout2] at hown3 hol
          have hol' := Lib.hid hol
          have hr1' := Lib.hid hr1
          have hout2' := Lib.hid hout2
          have h44' := Lib.hid h44
          clear h44 hol hr1 hout2
          go_wp2_with fail
          go_at_call 77
          refine hC.mono ?_
          rintro e w4 ⟨hc, rfl⟩
          rcases hc with ⟨h5, rfl⟩ | ⟨h5, q, hq, rfl⟩
          · exact absurd h44'.out h5
          · have hR2 : vals T.data.toList = (vals q.data.toList).map fun p => (out2 ++ p.1, p.2) := by
              rw [hR.out, hstep.out, hq, ← hout2'.out]
              cases vals r.data.toList.tail with
              | none => rfl
              | some p => simp
            have hqs : q.size < r.size := by rw [Lib.size_eq, Lib.size_eq, hq]; exact hr1'.out
            have hR2' := Lib.hid hR2
            clear h5 hq hR2 hC
            go_wp2
            go_roundw
            case rel => exact ⟨q, out2, true, _, rfl, rfl, rfl, hown3, hbw3, by have := hol'.out; omega, by omega, fun _ => hR2'.out, (fun h => by cases h), fun _ => by have := hol'.out; omega⟩
            case measure => simp only [strLen, bit]; omega
        · have hC := cutPre_any r 44 w3
          have hstep := Lib.hid (vals_last h1'.out h44)
          have hol : (out ++ [mean a.data.toList]).length = out.length + 1 := by simp
          obtain ⟨out2, hout2⟩ : ∃ o, out ++ [mean a.data.toList] = o := ⟨_, rfl⟩
          rw [hout2] at hown3 hol
          have hol' := Lib.hid hol
          have hout2' := Lib.hid hout2
          have h44' := Lib.hid h44
          clear h44 hol hout2
          go_wp2_with fail
          go_at_call 77
          refine hC.mono ?_
          rintro e w4 ⟨hc, rfl⟩
          rcases hc with ⟨h5, rfl⟩ | ⟨h5, q, hq, rfl⟩
          · have hR2 : vals T.data.toList = some (out2, r.data.toList) := by
              rw [hR.out, hstep.out, ← hout2'.out]; rfl
            have hR2' := Lib.hid hR2
            clear h5 hR2 hC
            go_wp2
            go_roundw
            case rel => exact ⟨r, out2, false, _, rfl, rfl, rfl, hown3, hbw3, by have := hol'.out; omega, by omega, (fun h => by cases h), fun _ => hR2'.out, (fun h => by cases h)⟩
            case measure => simp only [strLen, bit]; omega
          · exact absurd h5 h44'.out
end Go.Proofs.YthnnpnlapjlnoaaGreatDoor.Li

/-
  WALKS OF line.cutParam, cutParams.
-/
set_option linter.unusedVariables false
namespace Go.Proofs.YthnnpnlapjlnoaaGreatDoor.Li
open Go.Lib Go.RowKit Bu

theorem Own.form {B : Nat} {v : Value} {ls : List Row} {w : World} (h : Own B v ls w) : ∃ ao c, v = .slice ao ls.length c := by
  rcases h.2 with ⟨h1, h2⟩ | ⟨g, cap, cur, h1, _⟩
  · exact ⟨none, 0, by rw [h1, h2]⟩
  · exact ⟨_, _, h1⟩
def CutParamP (B : Nat) (t : Row) (e : Ending) (w' : World) : Prop :=
  (∃ n : Nat, (∀ s g m acc, s.head? = some 59 → s.tail = t → fin g m acc s = .bad n) ∧ n ≠ 0 ∧ n < 100 ∧ e = .returned (.tuple #[.agg #[.string ⟨#[]⟩, .slice none 0 0], .string ⟨#[]⟩, .int .i64 (n : Int)])) ∨
  ∃ (n r : ByteArray) (v : Value) (vs : List Row), (∀ s g m acc, s.head? = some 59 → s.tail = t → fin g m acc s = fin g m (acc ++ [⟨n.data.toList, vs⟩]) r.data.toList) ∧ r.size < t.length ∧
    e = .returned (.tuple #[.agg #[.string n, v], .string r, .int .i64 0]) ∧ Own B v vs w'

set_option maxHeartbeats 4000000 in
set_option maxRecDepth 100000 in
theorem cutParam_any (s : ByteArray) (w : World) (hs : s.size ≤ 1099511627776) :
    Calls Tryz.prog 106 #[.string s] w fun e w' => CutParamP w.heap.size s.data.toList e w' ∧ Below w.heap.size w w' := by
  have hsz := Lib.hid (Lib.size_eq s)
  go_enter Tryz.func106, Tryz.ntmps106
  go_wp2_with fail
  go_at_call 104
  refine (cutName_any s _ (by omega)).mono ?_
  rintro e w1 ⟨hc, hb0⟩
  have hz1 : w.heap.size < w1.heap.size := by have := hb0.size; simp at this; omega
  have hk1 : w1.heap[w.heap.size]? = some (.cells #[.string ⟨#[]⟩, .slice none 0 0] 47 (0, 0)) := by
    rw [hb0.block w.heap.size (by simp)]
    exact heap_alloc_new w _
  have hb1 : Below w.heap.size w w1 := ((Below.refl _ _).alloc (Nat.le_refl _) _).trans (hb0.mono (by simp))
  clear hb0
  have hk1' := Lib.hid hk1
  have c0 : w1.cell? ⟨w.heap.size, 0, none⟩ = some (.string ⟨#[]⟩) := by rw [Lib.cell_of_heap hk1]; rfl
  have c1 : w1.cell? ⟨w.heap.size, 1, none⟩ = some (.slice none 0 0) := by rw [Lib.cell_of_heap hk1]; rfl
  have f0 : w1.frozen? ⟨w.heap.size, 0, none⟩ = false := Lib.frozen_of_heap hk1 0
  have f1 : w1.frozen? ⟨w.heap.size, 1, none⟩ = false := Lib.frozen_of_heap hk1 1
  clear hk1
  rcases hc with ⟨h1, rfl⟩ | ⟨n, r, h1, rfl⟩
  · have hfin : ∀ W, CutParamP w.heap.size s.data.toList (.returned (.tuple #[.agg #[.string ⟨#[]⟩, .slice none 0 0], .string ⟨#[]⟩, .int .i64 30])) W := fun W => .inl ⟨30, fun t g m acc h59 ht => fin_bad1 h59 (by rw [ht]; exact h1), by decide, by decide, rfl⟩
    have hfin' := Lib.hid hfin
    clear hfin h1
    go_wp2
    exact bodyPost_ret (v := .tuple #[.agg #[.string ⟨#[]⟩, .slice none 0 0], .string ⟨#[]⟩, .int .i64 30]) (by simp [results, Tryz.results106, go_sem, c0, c1]) rfl ⟨hfin'.out _, (hb1.setCell (p := ⟨w.heap.size, 0, none⟩) (Nat.le_refl _) _).setCell (p := ⟨w.heap.size, 1, none⟩) (Nat.le_refl _) _⟩
  · have hnr := nameC_len h1
    rw [← Lib.size_eq] at hnr
    have hn1 : 1 ≤ n.size := by
      have := (nameC_some h1).2
      unfold nameB at this
      simp only [Bool.and_eq_true, decide_eq_true_eq] at this
      rw [Lib.size_eq]; omega
    have hC := cutPre_any r 61 w1
    have h1' := Lib.hid h1
    clear h1
    go_wp2_with fail
    go_at_call 77
    refine hC.mono ?_
    rintro e w' ⟨hc, rfl⟩
    clear hC
    rcases hc with ⟨h5, rfl⟩ | ⟨h5, q, hq, rfl⟩
    · have hfin : ∀ W, CutParamP w.heap.size s.data.toList (.returned (.tuple #[.agg #[.string ⟨#[]⟩, .slice none 0 0], .string ⟨#[]⟩, .int .i64 31])) W := fun W => .inl ⟨31, fun t g m acc h59 ht => fin_bad2 h59 (by rw [ht]; exact h1'.out) h5, by decide, by decide, rfl⟩
      have hfin' := Lib.hid hfin
      clear hfin h5
      go_wp2
      exact bodyPost_ret (v := .tuple #[.agg #[.string ⟨#[]⟩, .slice none 0 0], .string ⟨#[]⟩, .int .i64 31]) (by simp [results, Tryz.results106, go_sem, c0, c1]) rfl ⟨hfin'.out _, (hb1.setCell (p := ⟨w.heap.size, 0, none⟩) (Nat.le_refl _) _).setCell (p := ⟨w.heap.size, 1, none⟩) (Nat.le_refl _) _⟩
    · have hqs : q.size < r.size := by rw [Lib.size_eq, Lib.size_eq, hq]; exact tail_lt h5
      have hV := cutValues_any q w1 (by omega)
      have h5' := Lib.hid h5
      have hq' := Lib.hid hq
      clear h5 hq c0 c1 f0 f1
      go_wp2_with fail
      go_at_call 126
      refine hV.mono ?_
      rintro e w2 ⟨hc, hb2⟩
      clear hV
      have hk2 : w2.heap[w.heap.size]? = some (.cells #[.string ⟨#[]⟩, .slice none 0 0] 47 (0, 0)) := by
        rw [hb2.block w.heap.size hz1]
        exact hk1'.out
      have hz2 : w.heap.size < w2.heap.size := Nat.lt_of_lt_of_le hz1 hb2.size
      have hB := below_then hb1 hb2
      have c0 : w2.cell? ⟨w.heap.size, 0, none⟩ = some (.string ⟨#[]⟩) := by rw [Lib.cell_of_heap hk2]; rfl
      have c1 : w2.cell? ⟨w.heap.size, 1, none⟩ = some (.slice none 0 0) := by rw [Lib.cell_of_heap hk2]; rfl
      have f0 : w2.frozen? ⟨w.heap.size, 0, none⟩ = false := Lib.frozen_of_heap hk2 0
      have f1 : w2.frozen? ⟨w.heap.size, 1, none⟩ = false := Lib.frozen_of_heap hk2 1
      clear hk2
      rcases hc with ⟨h6, rfl⟩ | ⟨v, out, r2, h6, rfl, hown⟩
      · have hfin : ∀ W, CutParamP w.heap.size s.data.toList (.returned (.tuple #[.agg #[.string ⟨#[]⟩, .slice none 0 0], .string ⟨#[]⟩, .int .i64 31])) W := fun W => .inl ⟨31, fun t g m acc h59 ht => fin_bad3 h59 (by rw [ht]; exact h1'.out) h5'.out (by rw [← hq'.out]; exact h6), by decide, by decide, rfl⟩
        have hfin' := Lib.hid hfin
        clear hfin h6
        go_wp2
        exact bodyPost_ret (v := .tuple #[.agg #[.string ⟨#[]⟩, .slice none 0 0], .string ⟨#[]⟩, .int .i64 31]) (by simp [results, Tryz.results106, go_sem, c0, c1]) rfl ⟨hfin'.out _, (hB.setCell (p := ⟨w.heap.size, 0, none⟩) (Nat.le_refl _) _).setCell (p := ⟨w.heap.size, 1, none⟩) (Nat.le_refl _) _⟩
      · have hr2 : r2.size < s.data.toList.length := by
          have := (vals_len _ (Nat.le_refl _) h6).1
          have h7 := List.length_pos_iff.2 (vals_len _ (Nat.le_refl _) h6).2
          rw [Lib.size_eq r2]
          have h8 := hsz.out
          have h9 := Lib.size_eq q
          omega
        have hown2 : ∀ x y, Own w.heap.size v out ((w2.setCell ⟨w.heap.size, 0, none⟩ x).setCell ⟨w.heap.size, 1, none⟩ y) := fun x y => by
          have h := ownsRow_setCell_below (ownsRow_setCell_below hown (a := ⟨w.heap.size, 0, none⟩) hz1 x) (a := ⟨w.heap.size, 1, none⟩) hz1 y
          exact Own.less h (by omega)
        have hfin : ∀ W, Own w.heap.size v out W → CutParamP w.heap.size s.data.toList (.returned (.tuple #[.agg #[.string n, v], .string r2, .int .i64 0])) W := fun W hW => .inr ⟨n, r2, v, out, fun t g m acc h59 ht => fin_more h59 (by rw [ht]; exact h1'.out) h5'.out (by rw [← hq'.out]; exact h6), hr2, rfl, hW⟩
        obtain ⟨ao, c, rfl⟩ := hown.form
        have hfin' := Lib.hid hfin
        have hown2' := Lib.hid hown2
        obtain ⟨l, hl⟩ : ∃ l, out.length = l := ⟨_, rfl⟩
        rw [hl] at hfin' hown2' ⊢
        clear hfin h6 hown hown2 hl
        go_wp2
        exact bodyPost_ret (v := .tuple #[.agg #[.string n, .slice ao l c], .string r2, .int .i64 0]) (by simp [results, Tryz.results106, go_sem, c0, c1]) rfl ⟨hfin'.out _ (hown2'.out _ _), (hB.setCell (p := ⟨w.heap.size, 0, none⟩) (Nat.le_refl _) _).setCell (p := ⟨w.heap.size, 1, none⟩) (Nat.le_refl _) _⟩
end Go.Proofs.YthnnpnlapjlnoaaGreatDoor.Li

/-
  HOW ROWS OF LINES LIE IN MEMORY: of the call's own ('LsOwn'), and wherever they read ('LinesAt').
-/
set_option linter.unusedVariables false
namespace Go.Proofs.YthnnpnlapjlnoaaGreatDoor.Ca
open Go.Lib Go.RowKit Li

theorem belowThen {a b c : World} (h1 : Below a.heap.size a b) (h2 : Below b.heap.size b c) : Below a.heap.size a c := h1.trans (h2.mono h1.size)
theorem belowDrewN {a w : World} (n : Nat) (h : Below a.heap.size a w) : Below a.heap.size a (w.drewN n) := ⟨h.os, h.tape, h.output, h.size, h.block⟩
theorem linePrm_ne : (47 : TypeId) ≠ 41 := by decide
theorem lineStr_ne : (9 : TypeId) ≠ 41 := by decide
theorem infoLine : (Tryz.prog.info? 41).map (fun i => (i.zero, i.size, i.bytes)) = some (some (.agg #[.string ⟨#[]⟩, .string ⟨#[]⟩, .slice none 0 0, .string ⟨#[]⟩]), 4, 72) := by kernel_rfl
def lcells : List LD → List Value → List Value
  | L :: Ls, v :: vs => sv L.group :: sv L.name :: v :: sv L.value :: lcells Ls vs
  | _, _ => []
theorem lcells_snoc : ∀ (Ls : List LD) (vs : List Value) (L : LD) (v : Value), Ls.length = vs.length → lcells (Ls ++ [L]) (vs ++ [v]) = lcells Ls vs ++ [sv L.group, sv L.name, v, sv L.value]
  | [], [], _, _, _ => rfl
  | q :: Ls, u :: vs, p, v, h => by
    have := lcells_snoc Ls vs p v (by simpa using h)
    simp only [List.cons_append, lcells, this]
  | [], _ :: _, _, _, h => by simp at h
  | _ :: _, [], _, _, h => by simp at h
theorem lcells_at : ∀ (Ls : List LD) (vs : List Value) (j : Nat) (L : LD) (v : Value), Ls.length = vs.length → Ls[j]? = some L → vs[j]? = some v →
    (lcells Ls vs)[j * 4]? = some (sv L.group) ∧ (lcells Ls vs)[j * 4 + 1]? = some (sv L.name) ∧ (lcells Ls vs)[j * 4 + 2]? = some v ∧ (lcells Ls vs)[j * 4 + 3]? = some (sv L.value)
  | q :: Ls, u :: vs, 0, L, v, h, h1, h2 => by
    simp at h1 h2; subst h1; subst h2
    exact ⟨rfl, rfl, rfl, rfl⟩
  | q :: Ls, u :: vs, j + 1, L, v, h, h1, h2 => by
    have := lcells_at Ls vs j L v (by simpa using h) (by simpa using h1) (by simpa using h2)
    rw [show (j + 1) * 4 = j * 4 + 1 + 1 + 1 + 1 by omega]
    simpa [lcells] using this
  | [], [], j, L, v, _, h1, _ => by simp at h1
  | [], _ :: _, _, _, _, h, _, _ => by simp at h
  | _ :: _, [], _, _, _, h, _, _ => by simp at h
theorem pBeside {w w' : World} {B B' size n : Nat} {v v' : Value} {ps : List PD} {xs : List Value} (h : POwn B v ps w) (k : w.ownsRow B' 41 size v' n xs) (hg : w.grownBy w' v'.ownBlock) : POwn B v ps w' := by
  obtain ⟨vs, h1, h2, h3⟩ := h
  exact ⟨vs, h1, ownsRow_beside h2 k linePrm_ne hg, fun j p u hp hu => ownsRow_beside (h3 j p u hp hu) k lineStr_ne hg⟩
/-- a slice of the call's own that reads as these lines -/
def LsOwn (B : Nat) (v : Value) (Ls : List LD) (w : World) : Prop :=
  ∃ vs : List Value, Ls.length = vs.length ∧ w.ownsRow B 41 4 v Ls.length (lcells Ls vs) ∧ ∀ (j : Nat) (L : LD) (u : Value), Ls[j]? = some L → vs[j]? = some u → POwn B u L.params w
theorem LsOwn.nil (B : Nat) (w : World) : LsOwn B (.slice none 0 0) [] w := ⟨[], rfl, World.ownsRow_nil w B _ 4, fun j p u h => by simp at h⟩
theorem LsOwn.kept {w w' : World} {B : Nat} {v : Value} {Ls : List LD} (h : LsOwn B v Ls w) (hb : Below w.heap.size w w') : LsOwn B v Ls w' := by
  obtain ⟨vs, h1, h2, h3⟩ := h
  exact ⟨vs, h1, ownsRow_kept h2 hb, fun j p u hp hu => (h3 j p u hp hu).kept hb⟩
theorem LsOwn.less {w : World} {B B' : Nat} {v : Value} {Ls : List LD} (h : LsOwn B v Ls w) (hb : B' ≤ B) : LsOwn B' v Ls w := by
  obtain ⟨vs, h1, h2, h3⟩ := h
  exact ⟨vs, h1, ownsRow_less h2 hb, fun j p u hp hu => (h3 j p u hp hu).less hb⟩
theorem LsOwn.form {B : Nat} {v : Value} {Ls : List LD} {w : World} (h : LsOwn B v Ls w) : ∃ ao c, v = .slice ao Ls.length c := by
  obtain ⟨vs, _, h2, _⟩ := h
  rcases h2.2 with ⟨hv, hn⟩ | ⟨g, cap, cur, e1, _⟩
  · exact ⟨none, 0, by rw [hv, hn]⟩
  · exact ⟨_, _, e1⟩
/-- lines, wherever they read -/
def LinesAt (w : World) (v : Value) (Ls : List LD) : Prop :=
  ∃ (A : Option Addr) (b off c : Nat), v = .slice A Ls.length c ∧ Ls.length ≤ c ∧ c ≤ maxLen ∧ (0 < Ls.length → A = some ⟨b, off, none⟩ ∧ b < w.heap.size) ∧
    ∀ (j : Nat) (L : LD), Ls[j]? = some L → w.cell? ⟨b, off + j * 4, none⟩ = some (sv L.group) ∧ w.cell? ⟨b, off + j * 4 + 1, none⟩ = some (sv L.name) ∧
      (∃ u, w.cell? ⟨b, off + j * 4 + 2, none⟩ = some u ∧ PrmsAt w u L.params) ∧ w.cell? ⟨b, off + j * 4 + 3, none⟩ = some (sv L.value)
theorem LinesAt.kept {w w' : World} {v : Value} {Ls : List LD} (h : LinesAt w v Ls) (hb : Below w.heap.size w w') : LinesAt w' v Ls := by
  obtain ⟨A, b, off, c, h1, h2, h3, h4, h5⟩ := h
  refine ⟨A, b, off, c, h1, h2, h3, fun hl => ⟨(h4 hl).1, Nat.lt_of_lt_of_le (h4 hl).2 hb.size⟩, fun j L hj => ?_⟩
  have hlt := (h4 (by have := (List.getElem?_eq_some_iff.1 hj).1; omega)).2
  obtain ⟨g0, g1, ⟨u, g2, g3⟩, g4⟩ := h5 j L hj
  rw [hb.cell (p := ⟨b, off + j * 4, none⟩) hlt, hb.cell (p := ⟨b, off + j * 4 + 1, none⟩) hlt, hb.cell (p := ⟨b, off + j * 4 + 2, none⟩) hlt, hb.cell (p := ⟨b, off + j * 4 + 3, none⟩) hlt]
  exact ⟨g0, g1, ⟨u, g2, g3.kept hb⟩, g4⟩
theorem LsOwn.at {B : Nat} {v : Value} {Ls : List LD} {w : World} (h : LsOwn B v Ls w) : LinesAt w v Ls := by
  obtain ⟨vs, hl, ⟨h1, h2 | ⟨g, cap, cur, e1, e2, e3, e4, e5, e6, e7⟩⟩, hv⟩ := h
  · obtain rfl : Ls = [] := List.eq_nil_of_length_eq_zero h2.2
    exact ⟨none, 0, 0, 0, h2.1, by simp, by unfold maxLen; omega, fun h => absurd h (by simp), fun j l hj => by simp at hj⟩
  · refine ⟨_, g, 0, cap, e1, e4, e5, fun _ => ⟨rfl, (Array.getElem?_eq_some_iff.1 e3).1⟩, fun j L hj => ?_⟩
    have hlt := (List.getElem?_eq_some_iff.1 hj).1
    have hu : vs[j]? = some (vs[j]'(by omega)) := List.getElem?_eq_getElem (by omega)
    obtain ⟨c0, c1, c2, c3⟩ := lcells_at Ls vs j L _ hl hj hu
    have key : ∀ i x, i < Ls.length * 4 → (lcells Ls vs)[i]? = some x → w.cell? ⟨g, 0 + i, none⟩ = some x := fun i x hi hx => by
      rw [Lib.cell_of_heap e3, Nat.zero_add]
      have : (cur.toList.take (Ls.length * 4))[i]? = (lcells Ls vs)[i]? := by rw [e7]
      rw [List.getElem?_take, if_pos hi, hx] at this
      rw [← Array.getElem?_toList, this]
    have k1 := key (j * 4 + 1) _ (by omega) c1
    have k2 := key (j * 4 + 2) _ (by omega) c2
    have k3 := key (j * 4 + 3) _ (by omega) c3
    rw [← Nat.add_assoc] at k1 k2 k3
    exact ⟨key _ _ (by omega) c0, k1, ⟨_, k2, (hv j L _ hj hu).at⟩, k3⟩
/-- what is left where a row of the call's own is written -/
def Left (w0 : World) (base : Nat) (w' : World) : Prop := ∀ (B : Nat) (A : World), Below B A w0 → B ≤ base → B ≤ w0.heap.size → Below B A w'
theorem left_of {w0 w' : World} {base : Nat} {e : TypeId} {size n : Nat} {v : Value} {xs : List Value} {o : Obj} (hown : w0.ownsRow base e size v n xs) (hg : (w0.alloc o).grownBy w' v.ownBlock) : Left w0 base w' :=
  fun B A hb h1 h2 => (hb.alloc h2 o).grown hg (by simp; omega) (fun k hk => Nat.le_trans h1 (hown.lt k hk).1)
/-- one line more -/
theorem append_line {w0 : World} {ops : Array Oper} {rest : List Oper} {o : Oper} {a : Act} {Q : Exit → Act → World → Prop} (L : LD) (a1 a2 a4 : ByteArray) (pv : Value) (h1 : sv L.group = .string a1) (h2 : sv L.name = .string a2) (h4 : sv L.value = .string a4) (hpv : ∃ ao n c, pv = .slice ao n c)
    (hgd : o.guard = none) (s xo : Operand) (ho : o.op = .call { callee := .builtin .append, args := #[s, xo], argTypes := #[23, 23] }) (base : Nat) (v : Value) (Ls : List LD) (g : Nat) (hgz : g = w0.heap.size) (hs : a.eval s = v) (hx : a.eval xo = .slice (some ⟨g, 0, none⟩) 1 1)
    (hown : LsOwn base v Ls w0) (hp : POwn base pv L.params w0) (hl : Ls.length ≤ 1099511627776) (hbase : base ≤ w0.heap.size)
    (h : ∀ v' w', LsOwn base v' (Ls ++ [L]) w' → Left w0 base w' → wpList Tryz.prog ops Q rest (a.put o.dst v') w') :
    wpList Tryz.prog ops Q (o :: rest) a (w0.alloc (.cells #[.string a1, .string a2, pv, .string a4] 41)) := by
  obtain ⟨i0, hi, hz0, hz1, hz2⟩ := info_parts infoLine
  obtain ⟨ao, pn, pc, rfl⟩ := hpv
  subst hgz
  obtain ⟨vs, hus, hrow, hvals⟩ := hown
  have hal : Below w0.heap.size w0 (w0.alloc (.cells #[.string a1, .string a2, .slice ao pn pc, .string a4] 41)) := (Below.refl _ _).alloc (Nat.le_refl _) _
  refine wpList_append_own _ hgd s xo 23 ho base 41 i0 (.agg #[.string ⟨#[]⟩, .string ⟨#[]⟩, .slice none 0 0, .string ⟨#[]⟩]) 4 72 Tryz.underlying23 hi hz0 hz1 hz2 rfl (by decide) v Ls.length (lcells Ls vs) hs (World.ownsRow.alloc hrow _) ⟨w0.heap.size, 0, none⟩ 1 1 [.string a1, .string a2, .slice ao pn pc, .string a4] hx rfl (fun j u hj => ?_) (fun u hu => ?_) (by unfold maxLen; omega) (by omega) (by simp; omega)
    (fun v' w' h5 h6 _ => h v' w' ?_ (left_of hrow h6))
  · match j, hj with
    | 0, hj => simp at hj; subst hj; simp [Addr.add]
    | 1, hj => simp at hj; subst hj; simp [Addr.add]
    | 2, hj => simp at hj; subst hj; simp [Addr.add]
    | 3, hj => simp at hj; subst hj; simp [Addr.add]
  · simp at hu
    rcases hu with rfl | rfl | rfl | rfl <;> rfl
  · refine ⟨vs ++ [.slice ao pn pc], by simp [hus], ?_, fun j q x hq hx => ?_⟩
    · rw [lcells_snoc _ _ _ _ hus, List.length_append, h1, h2, h4]
      exact h5
    · have hrow2 := ownsRow_kept hrow hal
      by_cases hj : j < Ls.length
      · rw [List.getElem?_append_left hj] at hq
        rw [List.getElem?_append_left (by omega)] at hx
        exact pBeside ((hvals j q x hq hx).kept hal) hrow2 h6
      · rw [List.getElem?_append_right (by omega)] at hq
        rw [List.getElem?_append_right (by omega)] at hx
        have hj0 : j = Ls.length := by
          have := (List.getElem?_eq_some_iff.1 hq).1
          simp at this; omega
        subst hj0
        rw [Nat.sub_self] at hq
        rw [hus, Nat.sub_self] at hx
        simp at hq hx
        subst hq; subst hx
        exact pBeside (hp.kept hal) hrow2 h6
/-- one line of a row of lines, as it is loaded -/
theorem LinesAt.line {w : World} {b off : Nat} {Ls : List LD} (h : ∀ (j : Nat) (L : LD), Ls[j]? = some L → w.cell? ⟨b, off + j * 4, none⟩ = some (sv L.group) ∧ w.cell? ⟨b, off + j * 4 + 1, none⟩ = some (sv L.name) ∧
      (∃ u, w.cell? ⟨b, off + j * 4 + 2, none⟩ = some u ∧ PrmsAt w u L.params) ∧ w.cell? ⟨b, off + j * 4 + 3, none⟩ = some (sv L.value)) (hlt : b < w.heap.size) {wr : World} (hb : Below w.heap.size w wr) {j : Nat} {L : LD} (hj : Ls[j]? = some L) :
    ∃ (a1 a2 a4 : ByteArray) (A : Option Addr) (n c : Nat), sv L.group = .string a1 ∧ sv L.name = .string a2 ∧ sv L.value = .string a4 ∧ n = L.params.length ∧ PrmsAt wr (.slice A n c) L.params ∧
      wr.cell? ⟨b, off + j * 4, none⟩ = some (.string a1) ∧ wr.cell? ⟨b, off + j * 4 + 1, none⟩ = some (.string a2) ∧ wr.cell? ⟨b, off + j * 4 + 2, none⟩ = some (.slice A n c) ∧ wr.cell? ⟨b, off + j * 4 + 3, none⟩ = some (.string a4) := by
  obtain ⟨g0, g1, ⟨u, g2, g3⟩, g4⟩ := h j L hj
  have g3' := g3.kept hb
  obtain ⟨A, _, _, c, hu, _⟩ := g3
  rw [← hb.cell (p := ⟨b, off + j * 4, none⟩) hlt] at g0
  rw [← hb.cell (p := ⟨b, off + j * 4 + 1, none⟩) hlt] at g1
  rw [← hb.cell (p := ⟨b, off + j * 4 + 2, none⟩) hlt] at g2
  rw [← hb.cell (p := ⟨b, off + j * 4 + 3, none⟩) hlt] at g4
  subst hu
  exact ⟨_, _, _, A, _, c, rfl, rfl, rfl, rfl, g3', g0, g1, g2, g4⟩
end Go.Proofs.YthnnpnlapjlnoaaGreatDoor.Ca

/-
  PLAIN LAWS OF LAYER value: what a value means, read as signs ('signs': a byte, and whether it was escaped), parted ('parts'), cut at a mark ('cutM'), put ('put', 'putL', 'putF'). Nothing of the program is run here.
-/
set_option linter.unusedVariables false
namespace Go.Proofs.YthnnpnlapjlnoaaGreatDoor.Va
abbrev Row := List UInt8
abbrev Sg := UInt8 × Bool

/-! ### signs -/
/-- what an escape stands for -/
def kep (c : UInt8) : Option UInt8 := if c = 92 ∨ c = 44 ∨ c = 59 then some c else if c = 110 ∨ c = 78 then some 10 else none
def signs : Row → Option (List Sg)
  | [] => some []
  | [x] => if x = 92 then none else some [(x, false)]
  | x :: c :: t => if x = 92 then (kep c).bind fun d => (signs t).map fun l => (d, true) :: l else (signs (c :: t)).map fun l => (x, false) :: l
theorem signs_nil : signs [] = some [] := by simp [signs]
theorem signs_end : signs [92] = none := by simp [signs]
theorem signs_esc (c : UInt8) (t : Row) : signs (92 :: c :: t) = (kep c).bind fun d => (signs t).map fun l => (d, true) :: l := by rw [signs]; simp
theorem signs_own (x : UInt8) (t : Row) (h : x ≠ 92) : signs (x :: t) = (signs t).map fun l => (x, false) :: l := by
  cases t with
  | nil => simp [signs, h]
  | cons c t => rw [signs]; simp [h]

theorem signs_append : ∀ (n : Nat) (a b : Row) (x : List Sg), a.length ≤ n → signs a = some x → signs (a ++ b) = (signs b).map fun y => x ++ y
  | n, [], b, x, _, h => by
    rw [signs_nil] at h
    obtain rfl := Option.some.inj h
    simp
  | n, z :: a, b, x, hn, h => by
    match n, hn with
    | 0, hn => simp at hn
    | n + 1, hn =>
      by_cases hz : z = 92
      · subst hz
        match a, hn, h with
        | [], hn, h => rw [signs_end] at h; cases h
        | c :: a, hn, h =>
          rw [signs_esc] at h
          obtain ⟨d, hd, h⟩ := Option.bind_eq_some_iff.1 h
          obtain ⟨y, hy, rfl⟩ := Option.map_eq_some_iff.1 h
          have ih := signs_append n a b y (by simp at hn; omega) hy
          simp only [List.cons_append]
          rw [signs_esc, hd, ih]
          cases signs b <;> simp
      · rw [signs_own _ _ hz] at h
        obtain ⟨y, hy, rfl⟩ := Option.map_eq_some_iff.1 h
        have ih := signs_append n a b y (by simp at hn; omega) hy
        simp only [List.cons_append]
        rw [signs_own _ _ hz, ih]
        cases signs b <;> simp
theorem signs_then {a : Row} {x : List Sg} (h : signs a = some x) (b : Row) : signs (a ++ b) = (signs b).map fun y => x ++ y := signs_append _ a b x (Nat.le_refl _) h
theorem signs_len : ∀ (n : Nat) (a : Row) (x : List Sg), a.length ≤ n → signs a = some x → x.length ≤ a.length
  | n, [], x, _, h => by
    rw [signs_nil] at h
    obtain rfl := Option.some.inj h
    simp
  | n, z :: a, x, hn, h => by
    match n, hn with
    | 0, hn => simp at hn
    | n + 1, hn =>
      by_cases hz : z = 92
      · subst hz
        match a, hn, h with
        | [], hn, h => rw [signs_end] at h; cases h
        | c :: a, hn, h =>
          rw [signs_esc] at h
          obtain ⟨d, hd, h⟩ := Option.bind_eq_some_iff.1 h
          obtain ⟨y, hy, rfl⟩ := Option.map_eq_some_iff.1 h
          have ih := signs_len n a y (by simp at hn; omega) hy
          simp only [List.length_cons]; omega
      · rw [signs_own _ _ hz] at h
        obtain ⟨y, hy, rfl⟩ := Option.map_eq_some_iff.1 h
        have ih := signs_len n a y (by simp at hn; omega) hy
        simp only [List.length_cons]; omega
/-- a text without \ stands for itself -/
theorem signs_free : ∀ (a : Row), 92 ∉ a → signs a = some (a.map fun c => (c, false))
  | [], _ => signs_nil
  | x :: a, h => by
    rw [signs_own _ _ (fun e => h (by simp [e])), signs_free a (fun e => h (by simp [e]))]
    simp

/-! ### what they mean -/
def plain (l : List Sg) : Row := l.map Prod.fst
def parts (m : UInt8) : List Sg → List (List Sg)
  | [] => [[]]
  | x :: l => if x = (m, false) then [] :: parts m l else match parts m l with
    | [] => [[x]]
    | p :: ps => (x :: p) :: ps
def listS (l : List Sg) : List Row := (parts 44 l).map plain
def fldS (l : List Sg) : List (List Row) := (parts 59 l).map listS
def text (s : Row) : Option Row := (signs s).map plain
def list (s : Row) : Option (List Row) := (signs s).map listS
def fields (s : Row) : Option (List (List Row)) := (signs s).map fldS
theorem plain_append (a b : List Sg) : plain (a ++ b) = plain a ++ plain b := by simp [plain]
theorem plain_len (a : List Sg) : (plain a).length = a.length := by simp [plain]

/-- signs laid ahead of the first piece -/
def pre (a : List Sg) : List (List Sg) → List (List Sg)
  | [] => [a]
  | p :: ps => (a ++ p) :: ps
theorem parts_ne (m : UInt8) : ∀ l, parts m l ≠ []
  | [] => by simp [parts]
  | x :: l => by rw [parts]; split; simp; split <;> simp
theorem pre_nil {l : List (List Sg)} (h : l ≠ []) : pre [] l = l := by
  cases l with
  | nil => exact absurd rfl h
  | cons p ps => simp [pre]
theorem pre_pre (a b : List Sg) (l : List (List Sg)) : pre a (pre b l) = pre (a ++ b) l := by cases l <;> simp [pre]
theorem parts_mark (m : UInt8) (l : List Sg) : parts m ((m, false) :: l) = [] :: parts m l := by simp [parts]
theorem parts_own (m : UInt8) (x : Sg) (l : List Sg) (h : x ≠ (m, false)) : parts m (x :: l) = pre [x] (parts m l) := by
  rw [parts, if_neg h]
  have := parts_ne m l
  cases hl : parts m l with
  | nil => exact absurd hl this
  | cons p ps => simp [pre]
theorem pre_one (x : Sg) (l : List (List Sg)) (h : l ≠ []) (b : List (List Sg)) : pre [x] l ++ b = pre [x] (l ++ b) := by
  cases l with
  | nil => exact absurd rfl h
  | cons p ps => simp [pre]
theorem parts_join (m : UInt8) : ∀ (a b : List Sg), parts m (a ++ (m, false) :: b) = parts m a ++ parts m b
  | [], b => by simp [parts]
  | x :: a, b => by
    have ih := parts_join m a b
    by_cases h : x = (m, false)
    · subst h
      rw [List.cons_append, parts_mark, parts_mark, ih]; simp
    · rw [List.cons_append, parts_own m x _ h, parts_own m x _ h, ih, pre_one _ _ (parts_ne m a)]
theorem parts_one (m : UInt8) : ∀ (a : List Sg), (m, false) ∉ a → parts m a = [a]
  | [], _ => by simp [parts]
  | x :: a, h => by
    rw [parts_own m x a (fun e => h (by simp [e])), parts_one m a (fun e => h (by simp [e]))]; simp [pre]
/-- how often a mark stands -/
def cnt (m : UInt8) (l : List Sg) : Nat := l.countP fun x => decide (x = (m, false))
theorem pre_len (a : List Sg) (l : List (List Sg)) (h : l ≠ []) : (pre a l).length = l.length := by
  cases l with
  | nil => exact absurd rfl h
  | cons p ps => simp [pre]
theorem parts_len (m : UInt8) : ∀ (l : List Sg), (parts m l).length = cnt m l + 1
  | [] => by simp [parts, cnt]
  | x :: l => by
    have ih := parts_len m l
    by_cases h : x = (m, false)
    · subst h
      rw [parts_mark, List.length_cons, ih]; simp [cnt]
    · rw [parts_own m x l h, pre_len _ _ (parts_ne m l), ih]
      simp [cnt, h]
theorem parts_sub (m : UInt8) : ∀ (l : List Sg) (p : List Sg), p ∈ parts m l → ∀ x ∈ p, x ∈ l
  | [], p, hp, x, hx => by simp [parts] at hp; subst hp; simp at hx
  | y :: l, p, hp, x, hx => by
    have ih := parts_sub m l
    by_cases h : y = (m, false)
    · subst h
      rw [parts_mark] at hp
      rcases List.mem_cons.1 hp with rfl | hp
      · simp at hx
      · exact List.mem_cons_of_mem _ (ih p hp x hx)
    · rw [parts_own m y l h] at hp
      cases hl : parts m l with
      | nil => exact absurd hl (parts_ne m l)
      | cons q qs =>
        rw [hl] at hp ih
        rcases List.mem_cons.1 hp with rfl | hp
        · simp only [List.singleton_append, List.mem_cons] at hx
          rcases hx with rfl | hx
          · exact List.mem_cons_self
          · exact List.mem_cons_of_mem _ (ih q (by simp) x hx)
        · exact List.mem_cons_of_mem _ (ih p (by simp [hp]) x hx)
theorem sum_pre (m : UInt8) (x : Sg) : ∀ (ps : List (List Sg)), ps ≠ [] → ((pre [x] ps).map (cnt m)).sum = (if x = (m, false) then 1 else 0) + (ps.map (cnt m)).sum
  | [], h => absurd rfl h
  | p :: ps, _ => by
    simp only [pre, List.singleton_append, List.map_cons, List.sum_cons]
    unfold cnt
    rw [List.countP_cons]
    by_cases h : x = (m, false) <;> simp [h] <;> omega
theorem parts_cnt (m k : UInt8) (hmk : m ≠ k) : ∀ (l : List Sg), ((parts m l).map (cnt k)).sum = cnt k l
  | [] => by simp [parts, cnt]
  | x :: l => by
    have ih := parts_cnt m k hmk l
    by_cases h : x = (m, false)
    · subst h
      rw [parts_mark, List.map_cons, List.sum_cons, ih]
      have : ((m, false) : Sg) ≠ (k, false) := fun e => hmk (Prod.mk.inj e).1
      simp [cnt, this]
    · rw [parts_own m x l h, sum_pre k x _ (parts_ne m l), ih]
      unfold cnt
      rw [List.countP_cons]
      by_cases h : x = (k, false) <;> simp [h] <;> omega
theorem fldS_len (l : List Sg) : (fldS l).length = cnt 59 l + 1 := by unfold fldS; rw [List.length_map, parts_len]
theorem listS_len (l : List Sg) : (listS l).length = cnt 44 l + 1 := by unfold listS; rw [List.length_map, parts_len]
theorem fldS_all (l : List Sg) : ((fldS l).map List.length).sum = cnt 44 l + (cnt 59 l + 1) := by
  unfold fldS
  rw [List.map_map]
  have : (List.length ∘ listS) = fun p => cnt 44 p + 1 := by funext p; exact listS_len p
  rw [this]
  have h := parts_cnt 59 44 (by decide) l
  have h2 := parts_len 59 l
  rw [← h, ← h2]
  induction parts 59 l with
  | nil => rfl
  | cons p ps ih => simp only [List.map_cons, List.sum_cons, List.length_cons, ih]; omega
theorem cnt_le (m : UInt8) (l : List Sg) : cnt m l ≤ l.length := by unfold cnt; exact List.countP_le_length

/-! ### cut at a mark -/
def cutM (m : UInt8) : Row → Option (Row × Row)
  | [] => none
  | [x] => if x = 92 then none else if x = m then some ([], []) else none
  | x :: c :: t => if x = 92 then (cutM m t).map fun p => (x :: c :: p.1, p.2) else if x = m then some ([], c :: t) else (cutM m (c :: t)).map fun p => (x :: p.1, p.2)
theorem cutM_nil (m : UInt8) : cutM m [] = none := by simp [cutM]
theorem cutM_end (m : UInt8) : cutM m [92] = none := by simp [cutM]
theorem cutM_esc (m c : UInt8) (t : Row) : cutM m (92 :: c :: t) = (cutM m t).map fun p => (92 :: c :: p.1, p.2) := by rw [cutM]; simp
theorem cutM_mark (m : UInt8) (t : Row) (h : m ≠ 92) : cutM m (m :: t) = some ([], t) := by
  cases t with
  | nil => simp [cutM, h]
  | cons c t => rw [cutM]; simp [h]
theorem cutM_own (m x : UInt8) (t : Row) (h : x ≠ 92) (hm : x ≠ m) : cutM m (x :: t) = (cutM m t).map fun p => (x :: p.1, p.2) := by
  cases t with
  | nil => simp [cutM, h, hm]
  | cons c t => rw [cutM]; simp [h, hm]
/-- where there is none, there is one piece -/
theorem cutM_none (m : UInt8) (h92 : m ≠ 92) : ∀ (n : Nat) (s : Row) (l : List Sg), s.length ≤ n → cutM m s = none → signs s = some l → (m, false) ∉ l
  | n, [], l, _, _, h => by
    rw [signs_nil] at h
    obtain rfl := Option.some.inj h
    simp
  | n, z :: a, l, hn, hc, h => by
    match n, hn with
    | 0, hn => simp at hn
    | n + 1, hn =>
      by_cases hz : z = 92
      · subst hz
        match a, hn, h, hc with
        | [], hn, h, hc => rw [signs_end] at h; cases h
        | c :: a, hn, h, hc =>
          rw [signs_esc] at h
          obtain ⟨d, hd, h⟩ := Option.bind_eq_some_iff.1 h
          obtain ⟨y, hy, rfl⟩ := Option.map_eq_some_iff.1 h
          rw [cutM_esc, Option.map_eq_none_iff] at hc
          have ih := cutM_none m h92 n a y (by simp at hn; omega) hc hy
          simp [ih]
      · rw [signs_own _ _ hz] at h
        obtain ⟨y, hy, rfl⟩ := Option.map_eq_some_iff.1 h
        by_cases hm : z = m
        · subst hm
          rw [cutM_mark _ _ hz] at hc; cases hc
        · rw [cutM_own _ _ _ hz hm, Option.map_eq_none_iff] at hc
          have ih := cutM_none m h92 n a y (by simp at hn; omega) hc hy
          simp [ih, Ne.symm hm]
/-- where there is one, the signs fall into what is ahead and what is behind -/
theorem cutM_some (m : UInt8) (h92 : m ≠ 92) : ∀ (n : Nat) (s a r : Row), s.length ≤ n → cutM m s = some (a, r) →
    s = a ++ m :: r ∧ signs s = ((signs a).bind fun x => (signs r).map fun y => x ++ (m, false) :: y) ∧ (∀ x, signs a = some x → (m, false) ∉ x)
  | n, [], a, r, _, h => by rw [cutM_nil] at h; cases h
  | n, z :: s, a, r, hn, hc => by
    match n, hn with
    | 0, hn => simp at hn
    | n + 1, hn =>
      by_cases hz : z = 92
      · subst hz
        match s, hn, hc with
        | [], hn, hc => rw [cutM_end] at hc; cases hc
        | c :: s, hn, hc =>
          rw [cutM_esc] at hc
          obtain ⟨⟨p, q⟩, hp, he⟩ := Option.map_eq_some_iff.1 hc
          simp only [Prod.mk.injEq] at he
          obtain ⟨rfl, rfl⟩ := he
          obtain ⟨h1, h2, h3⟩ := cutM_some m h92 n s p q (by simp at hn; omega) hp
          refine ⟨by rw [h1]; simp, ?_, fun x hx => ?_⟩
          · rw [signs_esc, signs_esc, h2]
            cases kep c <;> cases signs p <;> cases signs q <;> simp
          · rw [signs_esc] at hx
            obtain ⟨d, hd, hx⟩ := Option.bind_eq_some_iff.1 hx
            obtain ⟨y, hy, rfl⟩ := Option.map_eq_some_iff.1 hx
            simp [h3 y hy]
      · by_cases hm : z = m
        · subst hm
          rw [cutM_mark _ _ hz] at hc
          have hc := Option.some.inj hc
          simp only [Prod.mk.injEq] at hc
          obtain ⟨rfl, rfl⟩ := hc
          refine ⟨rfl, ?_, fun x hx => ?_⟩
          · rw [signs_own _ _ hz, signs_nil]; simp
          · rw [signs_nil] at hx
            obtain rfl := Option.some.inj hx
            simp
        · rw [cutM_own _ _ _ hz hm] at hc
          obtain ⟨⟨p, q⟩, hp, he⟩ := Option.map_eq_some_iff.1 hc
          simp only [Prod.mk.injEq] at he
          obtain ⟨rfl, rfl⟩ := he
          obtain ⟨h1, h2, h3⟩ := cutM_some m h92 n s p q (by simp at hn; omega) hp
          refine ⟨by rw [h1]; simp, ?_, fun x hx => ?_⟩
          · rw [signs_own _ _ hz, signs_own _ _ hz, h2]
            cases signs p <;> cases signs q <;> simp
          · rw [signs_own _ _ hz] at hx
            obtain ⟨y, hy, rfl⟩ := Option.map_eq_some_iff.1 hx
            simp [h3 y hy, Ne.symm hm]

/-! ### pieces, each read -/
/-- what rd makes of the signs of each piece -/
def pcs {α : Type} (m : UInt8) (rd : List Sg → α) (s : Row) : Option (List α) := (signs s).map fun l => (parts m l).map rd
theorem list_pcs (s : Row) : list s = pcs 44 plain s := rfl
theorem fields_pcs (s : Row) : fields s = pcs 59 listS s := rfl
theorem pcs_last {α : Type} (m : UInt8) (h92 : m ≠ 92) (rd : List Sg → α) (s : Row) (h : cutM m s = none) : pcs m rd s = ((signs s).map rd).map fun x => [x] := by
  unfold pcs
  cases hs : signs s with
  | none => rfl
  | some l =>
    have := parts_one m l (cutM_none m h92 _ s l (Nat.le_refl _) h hs)
    simp [this]
theorem pcs_more {α : Type} (m : UInt8) (h92 : m ≠ 92) (rd : List Sg → α) (s a r : Row) (h : cutM m s = some (a, r)) : pcs m rd s = ((signs a).map rd).bind fun x => (pcs m rd r).map fun y => x :: y := by
  obtain ⟨_, h2, h3⟩ := cutM_some m h92 _ s a r (Nat.le_refl _) h
  unfold pcs
  rw [h2]
  cases ha : signs a with
  | none => rfl
  | some x =>
    cases hr : signs r with
    | none => rfl
    | some y =>
      have := parts_one m x (h3 x ha)
      simp [parts_join, this]
theorem cutM_len (m : UInt8) (h92 : m ≠ 92) {s a r : Row} (h : cutM m s = some (a, r)) : a.length + (r.length + 1) = s.length := by
  rw [(cutM_some m h92 _ s a r (Nat.le_refl _) h).1]; simp

/-! ### put -/
def put1 (c : UInt8) : Row := if c = 92 ∨ c = 44 ∨ c = 59 then [92, c] else if c = 10 then [92, 110] else [c]
def put : Row → Row
  | [] => []
  | c :: t => put1 c ++ put t
/-- laid behind one another, a mark between -/
def tl (m : UInt8) : List Row → Row
  | [] => []
  | x :: xs => m :: x ++ tl m xs
def jn (m : UInt8) : List Row → Row
  | [] => []
  | x :: xs => x ++ tl m xs
def putL (ts : List Row) : Row := jn 44 (ts.map put)
def putF (fs : List (List Row)) : Row := jn 59 (fs.map putL)
theorem put_append : ∀ (a b : Row), put (a ++ b) = put a ++ put b
  | [], b => rfl
  | c :: a, b => by simp only [List.cons_append, put, put_append a b, List.append_assoc]
theorem put1_len (c : UInt8) : (put1 c).length ≤ 2 := by unfold put1; split; simp; split <;> simp
theorem put_len : ∀ (a : Row), (put a).length ≤ 2 * a.length
  | [] => by simp [put]
  | c :: a => by have := put_len a; have := put1_len c; simp only [put, List.length_append, List.length_cons]; omega
theorem tl_append (m : UInt8) : ∀ (a b : List Row), tl m (a ++ b) = tl m a ++ tl m b
  | [], b => rfl
  | x :: a, b => by simp only [List.cons_append, tl, tl_append m a b, List.append_assoc]
/-- the next one is put behind -/
theorem jn_snoc (m : UInt8) (a : List Row) (x : Row) : jn m (a ++ [x]) = if a = [] then x else jn m a ++ m :: x := by
  cases a with
  | nil => simp [jn, tl]
  | cons y a => simp [jn, tl_append, tl]
def sg1 (c : UInt8) : Sg := (c, decide (c = 92 ∨ c = 44 ∨ c = 59 ∨ c = 10))
theorem signs_put1 (c : UInt8) : signs (put1 c) = some [sg1 c] := by
  unfold put1 sg1
  by_cases h : c = 92 ∨ c = 44 ∨ c = 59
  · rw [if_pos h, signs_esc]
    have : decide (c = 92 ∨ c = 44 ∨ c = 59 ∨ c = 10) = true := decide_eq_true (by rcases h with h | h | h <;> simp [h])
    simp [kep, h, signs_nil, this]
  · rw [if_neg h]
    by_cases h10 : c = 10
    · subst h10; rfl
    · rw [if_neg h10, signs_own _ _ (fun e => h (.inl e)), signs_nil]
      have : decide (c = 92 ∨ c = 44 ∨ c = 59 ∨ c = 10) = false := decide_eq_false (by rintro (e | e | e | e) <;> simp_all)
      simp [this]
theorem signs_put : ∀ (a : Row), signs (put a) = some (a.map sg1)
  | [] => signs_nil
  | c :: a => by rw [put, signs_then (signs_put1 c), signs_put a]; simp
theorem plain_sg (a : Row) : plain (a.map sg1) = a := by
  unfold plain
  rw [List.map_map]
  have : (Prod.fst ∘ sg1) = id := by funext c; rfl
  rw [this, List.map_id]
theorem sg1_no (c m : UInt8) (h : m = 44 ∨ m = 59) : sg1 c ≠ (m, false) := by
  unfold sg1
  intro e
  simp only [Prod.mk.injEq, decide_eq_false_iff_not] at e
  obtain ⟨rfl, e⟩ := e
  rcases h with rfl | rfl <;> simp at e
theorem put_free (a : Row) (m : UInt8) (h : m = 44 ∨ m = 59) : (m, false) ∉ a.map sg1 := fun hm => by
  obtain ⟨c, _, hc⟩ := List.mem_map.1 hm
  exact sg1_no c m h hc
theorem text_put (a : Row) : text (put a) = some a := by unfold text; rw [signs_put]; simp [plain_sg]
/-- rows whose signs are known, joined -/
def jnS (m : UInt8) : List (List Sg) → List Sg
  | [] => []
  | [x] => x
  | x :: y :: xs => x ++ (m, false) :: jnS m (y :: xs)
theorem signs_jn (m : UInt8) (h92 : m ≠ 92) {α : Type} (f : α → Row) (g : α → List Sg) (h : ∀ a, signs (f a) = some (g a)) : ∀ (xs : List α), signs (jn m (xs.map f)) = some (jnS m (xs.map g))
  | [] => signs_nil
  | [x] => by simp [jn, tl, jnS, h]
  | x :: y :: xs => by
    have ih := signs_jn m h92 f g h (y :: xs)
    have e : jn m ((x :: y :: xs).map f) = f x ++ (m :: jn m ((y :: xs).map f)) := by simp [jn, tl]
    rw [e, signs_then (h x), signs_own _ _ h92, ih]
    simp [jnS]
theorem parts_jn (m : UInt8) : ∀ (xs : List (List Sg)), xs ≠ [] → (∀ x ∈ xs, (m, false) ∉ x) → parts m (jnS m xs) = xs
  | [], h, _ => absurd rfl h
  | [x], _, h => by simp [jnS, parts_one m x (h x (by simp))]
  | x :: y :: xs, _, h => by
    have ih := parts_jn m (y :: xs) (by simp) (fun z hz => h z (by simp [hz]))
    rw [jnS, parts_join, ih, parts_one m x (h x (by simp))]; simp
theorem jnS_free (m k : UInt8) (hmk : m ≠ k) : ∀ (xs : List (List Sg)), (∀ x ∈ xs, (k, false) ∉ x) → (k, false) ∉ jnS m xs
  | [], _ => by simp [jnS]
  | [x], h => by simpa [jnS] using h x (by simp)
  | x :: y :: xs, h => by
    have ih := jnS_free m k hmk (y :: xs) (fun z hz => h z (by simp [hz]))
    have h0 := h x (by simp)
    rw [jnS]
    simp only [List.mem_append, List.mem_cons, Prod.mk.injEq, and_true]
    rintro (e | e | e)
    · exact h0 e
    · exact hmk e.symm
    · exact ih e
def sgL (ts : List Row) : List Sg := jnS 44 (ts.map fun t => t.map sg1)
theorem signs_putL (ts : List Row) : signs (putL ts) = some (sgL ts) := signs_jn 44 (by decide) put (fun t => t.map sg1) signs_put ts
theorem listS_sgL (ts : List Row) (h : ts ≠ []) : listS (sgL ts) = ts := by
  unfold listS sgL
  rw [parts_jn 44 _ (by simpa using h) (fun x hx => by obtain ⟨t, _, rfl⟩ := List.mem_map.1 hx; exact put_free t 44 (.inl rfl)), List.map_map]
  have : (plain ∘ fun t : Row => t.map sg1) = id := by funext t; exact plain_sg t
  rw [this, List.map_id]
theorem list_putL (ts : List Row) (h : ts ≠ []) : list (putL ts) = some ts := by unfold list; rw [signs_putL]; simp [listS_sgL ts h]
theorem fields_putF (fs : List (List Row)) (h : fs ≠ []) (hf : ∀ f ∈ fs, f ≠ []) : fields (putF fs) = some fs := by
  unfold fields putF
  rw [signs_jn 59 (by decide) putL sgL signs_putL, Option.map_some]
  unfold fldS
  rw [parts_jn 59 _ (by simpa using h) (fun x hx => by
    obtain ⟨f, _, rfl⟩ := List.mem_map.1 hx
    exact jnS_free 44 59 (by decide) _ (fun y hy => by obtain ⟨t, _, rfl⟩ := List.mem_map.1 hy; exact put_free t 59 (.inr rfl))), List.map_map]
  congr 1
  conv => rhs; rw [← List.map_id fs]
  exact List.map_congr_left fun f hm => listS_sgL f (hf f hm)
theorem list_put (a : Row) : list (put a) = some [a] := by
  have := list_putL [a] (by simp)
  simpa [putL, jn, tl] using this
theorem fields_put (a : Row) : fields (put a) = some [[a]] := by
  have := fields_putF [[a]] (by simp) (by simp)
  simpa [putF, putL, jn, tl] using this

/-! ### lists behind lists -/
theorem signs_mark (m : UInt8) (h92 : m ≠ 92) (a b : Row) (x : List Sg) (h : signs a = some x) : signs (a ++ m :: b) = (signs b).map fun y => x ++ (m, false) :: y := by
  rw [signs_then h, signs_own _ _ h92, Option.map_map]; rfl
theorem list_mark {a b : Row} {x y : List Row} (ha : list a = some x) (hb : list b = some y) : list (a ++ 44 :: b) = some (x ++ y) := by
  unfold list at *
  obtain ⟨l, hl, rfl⟩ := Option.map_eq_some_iff.1 ha
  obtain ⟨r, hr, rfl⟩ := Option.map_eq_some_iff.1 hb
  rw [signs_mark 44 (by decide) a b l hl, hr]
  simp [listS, parts_join]
theorem list_mark_none {a b : Row} {x : List Row} (ha : list a = some x) (hb : list b = none) : list (a ++ 44 :: b) = none := by
  unfold list at *
  obtain ⟨l, hl, rfl⟩ := Option.map_eq_some_iff.1 ha
  rw [Option.map_eq_none_iff] at hb
  rw [signs_mark 44 (by decide) a b l hl, hb]; rfl
theorem fields_mark {a b : Row} {x y : List (List Row)} (ha : fields a = some x) (hb : fields b = some y) : fields (a ++ 59 :: b) = some (x ++ y) := by
  unfold fields at *
  obtain ⟨l, hl, rfl⟩ := Option.map_eq_some_iff.1 ha
  obtain ⟨r, hr, rfl⟩ := Option.map_eq_some_iff.1 hb
  rw [signs_mark 59 (by decide) a b l hl, hr]
  simp [fldS, parts_join]
theorem list_iff {a : Row} : list a = none ↔ signs a = none := by unfold list; rw [Option.map_eq_none_iff]
theorem fields_iff {a : Row} : fields a = none ↔ signs a = none := by unfold fields; rw [Option.map_eq_none_iff]
theorem text_iff {a : Row} : text a = none ↔ signs a = none := by unfold text; rw [Option.map_eq_none_iff]

/-! ### how much there is -/
theorem text_len {a t : Row} (h : text a = some t) : t.length ≤ a.length := by
  unfold text at h
  obtain ⟨l, hl, rfl⟩ := Option.map_eq_some_iff.1 h
  rw [plain_len]
  exact signs_len _ a l (Nat.le_refl _) hl
theorem list_len {a : Row} {x : List Row} (h : list a = some x) : x.length ≤ a.length + 1 := by
  unfold list at h
  obtain ⟨l, hl, rfl⟩ := Option.map_eq_some_iff.1 h
  have := signs_len _ a l (Nat.le_refl _) hl
  have := cnt_le 44 l
  rw [listS_len]; omega
theorem fields_len {a : Row} {x : List (List Row)} (h : fields a = some x) : x.length ≤ a.length + 1 := by
  unfold fields at h
  obtain ⟨l, hl, rfl⟩ := Option.map_eq_some_iff.1 h
  have := signs_len _ a l (Nat.le_refl _) hl
  have := cnt_le 59 l
  rw [fldS_len]; omega
end Go.Proofs.YthnnpnlapjlnoaaGreatDoor.Va

/-
  PLAIN LAWS OF LAYER card: the words of a text with blanks ('words'), the texts of a line put anew ('anew'). Nothing of the program is run here.
-/
set_option linter.unusedVariables false
namespace Go.Proofs.YthnnpnlapjlnoaaGreatDoor.Ca
open Va
abbrev Row := List UInt8

/-! ### words -/
def wsA (cur : Row) : Row → List Row
  | [] => [cur]
  | c :: t => if c = 32 then cur :: wsA [] t else wsA (cur ++ [c]) t
/-- what is between the blanks -/
def words (s : Row) : List Row := wsA [] s
def among (name s : Row) : Bool := (words s).contains name
theorem wsA_blank (cur t : Row) : wsA cur (32 :: t) = cur :: wsA [] t := by rw [wsA]; simp
theorem wsA_own (cur : Row) (c : UInt8) (t : Row) (h : c ≠ 32) : wsA cur (c :: t) = wsA (cur ++ [c]) t := by rw [wsA]; simp [h]

/-! ### put anew -/
def sFN : Row := [70, 78, 32, 78, 79, 84, 69, 32, 85, 73, 68]
def sCAT : Row := [67, 65, 84, 69, 71, 79, 82, 73, 69, 83, 32, 78, 73, 67, 75, 78, 65, 77, 69]
def sN : Row := [78, 32, 79, 82, 71, 32, 65, 68, 82]
def anew (name v : Row) : Row × Bool :=
  if among name sFN = true then (put ((text v).getD []), (text v).isSome)
  else if among name sCAT = true then (putL ((list v).getD []), (list v).isSome)
  else if among name sN = true then (putF ((fields v).getD []), (fields v).isSome && (!decide (name = [78]) || decide (((fields v).getD []).length = 5)))
  else (v, true)
end Go.Proofs.YthnnpnlapjlnoaaGreatDoor.Ca

/-
  THE WALK OF line.cutParams.
-/
set_option linter.unusedVariables false
namespace Go.Proofs.YthnnpnlapjlnoaaGreatDoor.Li
open Go.Lib Go.RowKit Bu

def ParamsP (B : Nat) (t : Row) (e : Ending) (w' : World) : Prop :=
  (∃ n : Nat, (∀ g m acc, fin g m acc t = .bad n) ∧ n ≠ 0 ∧ n < 100 ∧ e = .returned (.tuple #[.slice none 0 0, .string ⟨#[]⟩, .int .i64 (n : Int)])) ∨
  ∃ (r : ByteArray) (v : Value) (ps : List PD), (∀ g m acc, fin g m acc t = fin g m (acc ++ ps) r.data.toList) ∧ r.data.toList.head? ≠ some 59 ∧ r.size ≤ t.length ∧
    e = .returned (.tuple #[v, .string r, .int .i64 0]) ∧ POwn B v ps w'
def ParamsRel (T : ByteArray) (w : World) (s0 s2 : Value) (wr : World) : Prop :=
  ∃ (t : ByteArray) (acc : List PD) (v : Value), s0 = .string t ∧ v = s2 ∧ POwn w.heap.size s2 acc wr ∧ Below w.heap.size w wr ∧ acc.length + t.size ≤ T.size ∧ ∀ g m a, fin g m a T.data.toList = fin g m (a ++ acc) t.data.toList

/-- one parameter more -/
theorem POwn.more {B : Nat} {v v' u : Value} {ps : List PD} {p : PD} {vs : List Value} {W w' : World} (hl : ps.length = vs.length) (hrow : W.ownsRow B 47 2 v ps.length (pcells ps vs)) (hv : ∀ (j : Nat) (p : PD) (u : Value), ps[j]? = some p → vs[j]? = some u → Own B u p.vals W)
    (hu : Own B u p.vals W) (hown' : w'.ownsRow B 47 2 v' (ps.length + 1) (pcells ps vs ++ [sv p.name, u])) (hg : W.grownBy w' v.ownBlock) : POwn B v' (ps ++ [p]) w' := by
  refine ⟨vs ++ [u], by simp [hl], ?_, fun j q x hq hx => ?_⟩
  · rw [pcells_snoc _ _ _ _ hl, List.length_append]
    exact hown'
  · by_cases hj : j < ps.length
    · rw [List.getElem?_append_left hj] at hq
      rw [List.getElem?_append_left (by omega)] at hx
      exact ownsRow_beside (hv j q x hq hx) hrow strPrm_ne hg
    · rw [List.getElem?_append_right (by omega)] at hq
      rw [List.getElem?_append_right (by omega)] at hx
      have hj0 : j = ps.length := by
        have := (List.getElem?_eq_some_iff.1 hq).1
        simp at this; omega
      subst hj0
      rw [Nat.sub_self] at hq
      rw [hl, Nat.sub_self] at hx
      simp at hq hx
      subst hq; subst hx
      exact ownsRow_beside hu hrow strPrm_ne hg

set_option maxHeartbeats 4000000 in
set_option maxRecDepth 100000 in
theorem cutParams_any (T : ByteArray) (w : World) (hs : T.size ≤ 1099511627776) :
    Calls Tryz.prog 76 #[.string T] w fun e w' => ParamsP w.heap.size T.data.toList e w' ∧ Below w.heap.size w w' := by
  obtain ⟨i0, hi, hz0, hz1, hz2⟩ := info_parts infoPrm
  have hTl := Lib.hid (Lib.size_eq T)
  go_enter Tryz.func76, Tryz.ntmps76
  go_wp2
  go_loopw [0, 2] (fun s0 s2 wr => ParamsRel T w s0 s2 wr) (fun s0 s2 wr => strLen s0)
  case atStart => exact ⟨T, [], _, rfl, rfl, POwn.nil _ _, Below.refl _ _, by simp, fun g m a => by simp⟩
  case round =>
    obtain ⟨t, acc, s2, rfl, rfl, hown, hbw, hL, hF⟩ := hrel
    have hF' := Lib.hid hF
    clear hF
    by_cases h59 : t.data.toList.head? = some 59
    · have cH := fun W => hasPre_is t 59 true W (decide_eq_true h59)
      have ht1 := size_pos t h59
      have hxs : (t.extract 1 t.size).data.toList = t.data.toList.tail := cut_tail t
      have hxl : (t.extract 1 t.size).size = t.size - 1 := by rw [Lib.size_eq, hxs, List.length_tail, ← Lib.size_eq]
      have cP := cutParam_any (t.extract 1 t.size) (wr.alloc (.cells #[.string ⟨#[]⟩, .slice none 0 0] 47)) (by omega)
      rw [hxs] at cP
      have htl := Lib.hid (show t.data.toList.tail.length = t.size - 1 by rw [List.length_tail, ← Lib.size_eq])
      have h59' := Lib.hid h59
      clear hxs hxl h59
      go_wp2_with (go_at_call 105; refine (cH _).mono ?_; rintro e w' ⟨rfl, rfl⟩)
      go_at_call 106
      refine cP.mono ?_
      rintro e w1 ⟨hc, hb0⟩
      clear cP cH
      have hz1' : wr.heap.size < w1.heap.size := by have := hb0.size; simp at this; omega
      have hk1 : w1.heap[wr.heap.size]? = some (.cells #[.string ⟨#[]⟩, .slice none 0 0] 47 (0, 0)) := by
        rw [hb0.block wr.heap.size (by simp)]
        exact heap_alloc_new wr _
      have hb1 : Below wr.heap.size wr w1 := ((Below.refl _ _).alloc (Nat.le_refl _) _).trans (hb0.mono (by simp))
      have c0 : w1.cell? ⟨wr.heap.size, 0, none⟩ = some (.string ⟨#[]⟩) := by rw [Lib.cell_of_heap hk1]; rfl
      have c1 : w1.cell? ⟨wr.heap.size, 1, none⟩ = some (.slice none 0 0) := by rw [Lib.cell_of_heap hk1]; rfl
      have f0 : w1.frozen? ⟨wr.heap.size, 0, none⟩ = false := Lib.frozen_of_heap hk1 0
      have f1 : w1.frozen? ⟨wr.heap.size, 1, none⟩ = false := Lib.frozen_of_heap hk1 1
      clear hk1 hb0
      rcases hc with ⟨n, h1, hn0, hn1, rfl⟩ | ⟨n, r, v, vs, h1, hr, rfl, hown1⟩
      · have hfin : ∀ W, ParamsP w.heap.size T.data.toList (.returned (.tuple #[.slice none 0 0, .string ⟨#[]⟩, .int .i64 (n : Int)])) W := fun W => .inl ⟨n, fun g m a => by rw [hF'.out, h1 _ _ _ _ h59'.out rfl], hn0, hn1, rfl⟩
        have hfin' := Lib.hid hfin
        have d1 : ((n : Int) != 0) = true := bne_iff_ne.2 (by omega)
        have d2 : ((n : Int) == 0) = false := beq_eq_false_iff_ne.2 (by omega)
        clear hfin h1
        have hB : ∀ x y, Below w.heap.size w ((w1.setCell ⟨wr.heap.size, 0, none⟩ x).setCell ⟨wr.heap.size, 1, none⟩ y) := fun x y => ((below_then hbw hb1).setCell (p := ⟨wr.heap.size, 0, none⟩) hbw.size _).setCell (p := ⟨wr.heap.size, 1, none⟩) hbw.size _
        go_wp2
        go_ret3
        exact ⟨hfin'.out _, hB _ _⟩
      · obtain ⟨ao, c, rfl⟩ := hown1.form
        obtain ⟨l, hl⟩ : ∃ l, vs.length = l := ⟨_, rfl⟩
        have hrl : r.size < t.size := by have := htl.out; omega
        have hstep := Lib.hid (fun g m a => (hF'.out g m a).trans (h1 t.data.toList g m (a ++ acc) h59'.out rfl))
        obtain ⟨us, hus, hrow, hvals⟩ := hown
        have hB : ∀ x y, Below wr.heap.size wr ((w1.setCell ⟨wr.heap.size, 0, none⟩ x).setCell ⟨wr.heap.size, 1, none⟩ y) := fun x y => (hb1.setCell (p := ⟨wr.heap.size, 0, none⟩) (Nat.le_refl _) _).setCell (p := ⟨wr.heap.size, 1, none⟩) (Nat.le_refl _) _
        have hbs := hB (.string n) (.slice ao vs.length c)
        have hownv : Own w.heap.size (.slice ao vs.length c) vs ((w1.setCell ⟨wr.heap.size, 0, none⟩ (.string n)).setCell ⟨wr.heap.size, 1, none⟩ (.slice ao vs.length c)) := by
          have h := ownsRow_setCell_below (ownsRow_setCell_below hown1 (a := ⟨wr.heap.size, 0, none⟩) (by simp) (.string n)) (a := ⟨wr.heap.size, 1, none⟩) (by simp) (.slice ao vs.length c)
          exact Own.less h (by have := hbw.size; simp; omega)
        have hrow1 := ownsRow_kept hrow hbs
        have hvals1 := fun j p u hp hu => (hvals j p u hp hu).kept hbs
        have hbw1 := below_then hbw hbs
        have hfinal : ∀ (v' : Value) (w' : World), w'.ownsRow w.heap.size 47 2 v' (acc.length + 1) (pcells acc us ++ [.string n, .slice ao vs.length c]) →
            ((((w1.setCell ⟨wr.heap.size, 0, none⟩ (.string n)).setCell ⟨wr.heap.size, 1, none⟩ (.slice ao vs.length c)).alloc (.cells #[.string n, .slice ao vs.length c] 47))).grownBy w' s2.ownBlock → POwn w.heap.size v' (acc ++ [⟨n.data.toList, vs⟩]) w' := fun v' w' hx hg => by
          have hal : Below (((w1.setCell ⟨wr.heap.size, 0, none⟩ (.string n)).setCell ⟨wr.heap.size, 1, none⟩ (.slice ao vs.length c))).heap.size ((w1.setCell ⟨wr.heap.size, 0, none⟩ (.string n)).setCell ⟨wr.heap.size, 1, none⟩ (.slice ao vs.length c)) (((w1.setCell ⟨wr.heap.size, 0, none⟩ (.string n)).setCell ⟨wr.heap.size, 1, none⟩ (.slice ao vs.length c)).alloc (.cells #[.string n, .slice ao vs.length c] 47)) := (Below.refl _ _).alloc (Nat.le_refl _) _
          refine POwn.more (p := ⟨n.data.toList, vs⟩) (w' := w') hus (ownsRow_kept hrow1 hal) (fun j p u hp hu => (hvals1 j p u hp hu).kept hal) (hownv.kept hal) ?_ hg
          rw [sv_data]; exact hx
        rw [hl] at hrow1 hfinal hbs
        have hrl' := Lib.hid hl
        have hus' := Lib.hid hus
        have hcnt : acc.length ≤ 1099511627776 := by omega
        have hbw2 := hbw1
        rw [hl] at hbw1 hbw2
        rw [hl]
        have hfinal' := Lib.hid hfinal
        clear hown1 hownv hvals hvals1 hrow h1 hB hus hbw2 hl hfinal
        go_wp2_with (at_builtin; refine wpList_append_own _ rfl _ _ 39 rfl w.heap.size 47 i0 (.agg #[.string ⟨#[]⟩, .slice none 0 0]) 2 40 Tryz.underlying39 hi hz0 hz1 hz2 rfl (by decide) _ _ _ rfl (hrow1.alloc _) ⟨w1.heap.size, 0, none⟩ 1 1 [.string n, .slice ao l c] rfl rfl ?c1 ?c2 ?c3 ?c4 ?c5 ?_)
        case c1 =>
          intro j u hj
          match j, hj with
          | 0, hj => simp at hj; subst hj; simp [Addr.add]; rw [World.cell?_alloc_at _ _ _ _ (by simp)]; rfl
          | 1, hj => simp at hj; subst hj; simp [Addr.add]; rw [World.cell?_alloc_at _ _ _ _ (by simp)]; rfl
        case c2 => intro u hu; simp at hu; rcases hu with rfl | rfl <;> rfl
        case c3 => unfold maxLen; omega
        case c4 => omega
        case c5 => have := hbw1.size; simp at this; simp; omega
        intro v' w3 hown' hgrow _
        have hP : POwn w.heap.size v' (acc ++ [⟨n.data.toList, vs⟩]) w3 := hfinal'.out v' w3 hown' hgrow
        have hbw3 : Below w.heap.size w w3 := (hbw1.alloc hbw1.size _).grown hgrow (by have := hbw1.size; simp at this; simp; omega) (fun k hk => (hrow1.lt k hk).1)
        clear hown' hgrow hrow1 hfinal'
        go_wp2
        go_roundw
        case rel => exact ⟨r, _, _, rfl, rfl, hP, hbw3, by simp; omega, fun g m a => by rw [hstep.out g m a, List.append_assoc]⟩
        case measure => simp only [strLen]; omega
    · have cH := fun W => hasPre_is t 59 false W (decide_eq_false h59)
      have hfin : ParamsP w.heap.size T.data.toList (.returned (.tuple #[s2, .string t, .int .i64 0])) wr := .inr ⟨t, s2, acc, hF'.out, h59, by have := hTl.out; omega, rfl, hown⟩
      have hfin' := Lib.hid hfin
      clear hfin h59 hown
      go_wp2_with (go_at_call 105; refine (cH _).mono ?_; rintro e w' ⟨rfl, rfl⟩)
      go_ret3
      exact ⟨hfin'.out, hbw⟩
end Go.Proofs.YthnnpnlapjlnoaaGreatDoor.Li
