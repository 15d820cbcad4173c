/-
  THE WALK OF THE LAW PathApart.
-/
import Derived.Test.YtolnlhpaaomplaaDoorPathSpec
import Derived.ChangeKeysEq
import Derived.Laws.StructEq
set_option linter.unusedVariables false
namespace Go.Proofs.YtolnlhpaaomplaaDoor.Pa
open Go.Lib Go.RowKit

theorem infoStr : (Tryd.prog.info? 9).map (fun i => (i.zero, i.size, i.bytes)) = some (some (.string ⟨#[]⟩), 1, 16) := by kernel_rfl
/-- two arrays of two strings compared -/
theorem eq_two (x0 x1 y0 y1 : ByteArray) (W : World) : (Op.equalIn 10000 36 (.agg #[.string x0, .string x1]) (.agg #[.string y0, .string y1])).run Tryd.prog W = .ok (x0.toList == y0.toList && x1.toList == y1.toList) W := by
  obtain ⟨i, hi, _, hz, _⟩ := info_parts infoStr
  have hc : Tryd.prog.cellsOf 9 = 1 := by unfold Program.cellsOf; rw [hi]; exact hz
  have hS : (Tryd.prog.underlying 9) = some .string := Tryd.underlying9
  rw [run_equalIn_array W 9999 _ _ Tryd.underlying36 hi, hc]
  show (Op.eqItems 9999 9 1 _ _ [0, 1]).run _ _ = _
  have hk : Tryd.prog.plainKey 9 = true := by kernel_rfl
  have p0 := fun (x y : ByteArray) => run_part_plain W hk (xs := #[.string x, .string y]) (off := 0 * 1) (v := .string x) rfl
  have p1 := fun (x y : ByteArray) => run_part_plain W hk (xs := #[.string x, .string y]) (off := 1 * 1) (v := .string y) rfl
  have q := fun (x y : ByteArray) => run_equalIn_string W 9998 9 x y hS
  simp only [Op.eqItems, Sem.run_bind, p0, Result.andThen_ok, q]
  cases h : (x0.toList == y0.toList)
  · simp
  · simp only [Bool.not_true, Bool.false_eq_true, if_false, Sem.run_bind, p1, Result.andThen_ok, q]
    cases h' : (x1.toList == y1.toList) <;> simp
set_option maxHeartbeats 4000000 in
set_option maxRecDepth 100000 in
theorem apart_walk (cO : OfC) (cP : ParseC) (cR : RootC) (a0 a1 b0 b1 : ByteArray) (h0 : a0.size ≤ mostS) (h1 : a1.size ≤ mostS) (h2 : b0.size ≤ mostS) (h3 : b1.size ≤ mostS) (w : World) (hT : Ch.Tabs w) :
    Calls Tryd.prog 5 #[.agg #[.string a0, .string a1], .agg #[.string b0, .string b1]] w fun e w' => e = .returned (.bool true) ∧ Below w.heap.size w w' := by
  obtain ⟨z, hz⟩ : ∃ z, w.heap.size = z := ⟨_, rfl⟩
  obtain ⟨wa, hwa⟩ : ∃ wa, w.alloc (.cells #[.string a0, .string a1] 36) = wa := ⟨_, rfl⟩
  obtain ⟨wb, hwb⟩ : ∃ wb, wa.alloc (.cells #[.string b0, .string b1] 36) = wb := ⟨_, rfl⟩
  have ka : wa.heap[z]? = some (.cells #[.string a0, .string a1] 36 (0, 0)) := by rw [← hwa, ← hz]; exact heap_alloc_new w _
  have hza : wa.heap.size = z + 1 := by rw [← hwa, ← hz]; simp
  obtain ⟨y, hy⟩ : ∃ y, wa.heap.size = y := ⟨_, rfl⟩
  have Ba : Below wa.heap.size wa wb := by rw [← hwb]; exact (Below.refl _ _).alloc (Nat.le_refl _) _
  have kb : wb.heap[y]? = some (.cells #[.string b0, .string b1] 36 (0, 0)) := by rw [← hwb, ← hy]; exact heap_alloc_new wa _
  have ka2 : wb.heap[z]? = some (.cells #[.string a0, .string a1] 36 (0, 0)) := (Ba.block _ (by omega)).trans ka
  have hzb : wb.heap.size = z + 2 := by rw [← hwb]; simp; omega
  have hzy : y = z + 1 := by omega
  have Bw : Below w.heap.size w wb := by
    have : Below w.heap.size w wa := by rw [← hwa]; exact (Below.refl _ _).alloc (Nat.le_refl _) _
    exact below_then this Ba
  have CE : Hid (∀ W, Below wb.heap.size wb W → W.cell? ⟨z, 0, none⟩ = some (.string a0) ∧ W.cell? ⟨z, 1, none⟩ = some (.string a1) ∧ W.cell? ⟨y, 0, none⟩ = some (.string b0) ∧ W.cell? ⟨y, 1, none⟩ = some (.string b1)) := Lib.hid fun W hW => by
    have g1 := (hW.block z (by omega)).trans ka2
    have g2 := (hW.block y (by omega)).trans kb
    exact ⟨(Lib.cell_of_heap g1 0).trans rfl, (Lib.cell_of_heap g1 1).trans rfl, (Lib.cell_of_heap g2 0).trans rfl, (Lib.cell_of_heap g2 1).trans rfl⟩
  have cF := first_any cO cP cR wb (Ch.tabs_below hT Bw)
  have cA := Lib.hid (fun (x y : ByteArray) (hx : x.size ≤ mostS) (hy : y.size ≤ mostS) (W : World) (hW : Below wb.heap.size wb W) => cO x y W hx hy (Ch.tabs_below hT (below_then Bw hW)))
  have Bw' := Lib.hid Bw
  clear hT ka hza Ba kb ka2 hzb Bw hzy
  go_enter Tryd.func5, Tryd.ntmps5
  go_wp2_with fail
  go_at_call 7
  with_reducible refine cF.mono ?_
  rintro e w1 ⟨rfl, hb1⟩
  obtain ⟨x0, x1, x2, x3⟩ := CE.out w1 hb1
  have d1 := cA.out a0 a1 h0 h1 w1 hb1
  have hb1' := Lib.hid hb1
  clear cF hb1
  go_wp2_with fail
  go_at_call 11
  with_reducible refine d1.mono ?_
  rintro e w2 ⟨hp, hb2⟩
  have hb2' := below_then hb1'.out hb2
  have d2 := cA.out b0 b1 h2 h3 w2 hb2'
  clear x0 x1 x2 x3
  obtain ⟨x0, x1, x2, x3⟩ := CE.out w2 hb2'
  have hb2'' := Lib.hid hb2'
  clear hb2 d1 hb2'
  rcases hp with ⟨hn, rfl⟩ | ⟨p, hp, rfl⟩
  · clear hn
    go_wp2_with fail
    go_at_call 11
    with_reducible refine d2.mono ?_
    rintro e w3 ⟨hq, hb3⟩
    have hb3' := Lib.hid (below_then Bw'.out (below_then hb2''.out hb3))
    clear hb3 d2 x0 x1 x2 x3
    rcases hq with ⟨hn, rfl⟩ | ⟨q, hq, rfl⟩
    all_goals
      go_wp2
      go_ret
      exact ⟨rfl, hb3'.out⟩
  · have hp' := Lib.hid hp
    clear hp
    go_wp2_with fail
    go_at_call 11
    with_reducible refine d2.mono ?_
    rintro e w3 ⟨hq, hb3⟩
    have hb3' := below_then hb2''.out hb3
    have d3 := cA.out a0 ⟨#[]⟩ h0 (by decide) w3 hb3'
    clear x0 x1 x2 x3
    obtain ⟨x0, x1, x2, x3⟩ := CE.out w3 hb3'
    have hb3'' := Lib.hid hb3'
    clear hb3 d2 hb3'
    rcases hq with ⟨hn, rfl⟩ | ⟨q, hq, rfl⟩
    · have hfin := Lib.hid (below_then Bw'.out hb3''.out)
      clear hn d3
      go_wp2
      go_ret
      exact ⟨rfl, hfin.out⟩
    · have hq' := Lib.hid hq
      clear hq
      go_wp2_with fail
      go_at_call 11
      with_reducible refine d3.mono ?_
      rintro e w4 ⟨hr, hb4⟩
      have hb4' := below_then hb3''.out hb4
      clear x0 x1 x2 x3
      obtain ⟨x0, x1, x2, x3⟩ := CE.out w4 hb4'
      have hfin := Lib.hid (below_then Bw'.out hb4')
      clear hb4 d3 hb4' cA CE
      have HA := Lib.hid (of_apart hp'.out hq'.out)
      rcases hr with ⟨hn, rfl⟩ | ⟨c, hc, rfl⟩
      · exfalso
        have hn' : ofP a0.data.toList [] = none := hn
        by_cases ha0 : a0.data.toList = []
        · rw [ha0] at hn'; cases hn'
        · obtain ⟨c, h4, _⟩ := of_head hp'.out ha0
          rw [h4] at hn'; cases hn'
      · have hc' : ofP a0.data.toList [] = some c.data.toList := hc
        have HB : Hid (¬ a0.data.toList = [] → c.size ≤ p.size ∧ p.extract 0 c.size = c) := Lib.hid fun ha0 => by
          obtain ⟨c', h4, h5, h6⟩ := of_head hp'.out ha0
          rw [hc'] at h4
          obtain rfl := Option.some.inj h4
          rw [← Lib.size_eq, ← Lib.size_eq] at h5
          refine ⟨h5, data_is ?_⟩
          rw [Lib.extract_data, ← Lib.size_eq] at *
          exact h6
        clear hc hc'
        have hI := Lib.hid (show p = q ↔ a0 = b0 ∧ a1 = b1 from by
          constructor
          · intro e
            obtain ⟨q1, q2⟩ := HA.out.1 (by rw [e])
            exact ⟨data_is q1, data_is q2⟩
          · rintro ⟨rfl, rfl⟩
            exact data_is (HA.out.2 ⟨rfl, rfl⟩))
        clear HA
        have hE : ∀ W, (Op.equalIn 10000 36 (.agg #[.string a0, .string a1]) (.agg #[.string b0, .string b1])).run Tryd.prog W = .ok (p.toList == q.toList) W := fun W => by
          rw [eq_two]
          congr 1
          rw [Lib.toList_data, Lib.toList_data, Lib.toList_data, Lib.toList_data, Lib.toList_data, Lib.toList_data, Bool.eq_iff_iff, Bool.and_eq_true, beq_iff_eq, beq_iff_eq, beq_iff_eq]
          constructor
          · rintro ⟨q1, q2⟩
            rw [hI.out.2 ⟨data_is q1, data_is q2⟩]
          · intro e
            obtain ⟨q1, q2⟩ := hI.out.1 (data_is e)
            rw [q1, q2]; exact ⟨rfl, rfl⟩
        clear hI
        obtain ⟨bb, hbb⟩ : ∃ bb, (p.toList == q.toList) = bb := ⟨_, rfl⟩
        rw [hbb] at hE
        by_cases ha0 : a0.data.toList = []
        · have e0 : a0.toList.isEmpty = true := by rw [Lib.toList_data, ha0]; rfl
          have e1 : (a0.toList == []) = true := by rw [Lib.toList_data, ha0]; rfl
          clear HB ha0
          cases bb
          all_goals
            go_wp2
            go_ret
            exact ⟨rfl, hfin.out⟩
        · obtain ⟨hle, hex⟩ := HB.out ha0
          have e0 : a0.toList.isEmpty = false := by
            rw [Lib.toList_data]
            cases h : a0.data.toList with
            | nil => exact absurd h ha0
            | cons _ _ => rfl
          have e1 : (a0.toList == []) = false := by rw [Lib.toList_data]; exact beq_eq_false_iff_ne.2 ha0
          have j1 : (c.size : Int) ≤ (p.size : Int) := by omega
          have j2 : ¬ (p.size : Int) < (c.size : Int) := by omega
          clear HB ha0
          cases bb
          all_goals
            go_wp2
            go_ret
            exact ⟨rfl, hfin.out⟩
end Go.Proofs.YtolnlhpaaomplaaDoor.Pa
