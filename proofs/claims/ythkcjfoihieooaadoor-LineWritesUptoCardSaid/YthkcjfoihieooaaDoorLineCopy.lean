/-
  THE WALK OF THE REFERENCE's Copy.
-/
import Derived.Test.YthkcjfoihieooaaDoorLineParams
import Derived.Test.YthkcjfoihieooaaDoorLineParse
import Derived.Laws.OwnMore
set_option linter.unusedVariables false
namespace Go.Proofs.YthkcjfoihieooaaDoor.Li
open Go.Lib Go.RowKit Bu

/-- append onto an empty row of the call's own, of strings that lie wherever: one law for nil, empty and other sources -/
theorem wpList_append_strs {w : World} {ops : Array Oper} {rest : List Oper} {o : Oper} {a : Act} {Q : Exit → Act → World → Prop} (hgd : o.guard = none) (s x : Operand)
    (ho : o.op = .call { callee := .builtin .append, args := #[s, x], argTypes := #[38, 38] }) (base : Nat) (v xv : Value) (ls : List Row) (hs : a.eval s = v) (hx : a.eval x = xv)
    (hown : w.ownsRow base 9 1 v 0 []) (hS : StrsAt w xv ls) (hls : ls.length ≤ 8796093022208) (hbase : base ≤ w.heap.size)
    (h : ∀ v' w', Own base v' ls w' → w.grownBy w' v.ownBlock → wpList Tryd.prog ops Q rest (a.put o.dst v') w') : wpList Tryd.prog ops Q (o :: rest) a w := by
  obtain ⟨i0, hi, hz0, hz1, hz2⟩ := info_parts infoStr
  obtain ⟨A, b, off, c, rfl, h1, h2, h3, h4⟩ := hS
  cases A with
  | none =>
    have hl : ls = [] := by
      cases ls with
      | nil => rfl
      | cons y t =>
        obtain ⟨h5, _⟩ := h3 (by simp)
        cases h5
    subst hl
    refine wpList_plain hgd fun K hK => ?_
    have hrun : (Builtin.append_ #[38, 38] o.type #[v, .slice none 0 c]).run Tryd.prog w = .ok v w := by
      rcases hown.2 with ⟨rfl, _⟩ | ⟨g, cap, cur, rfl, _, _, hnc, _⟩
      · simp [Builtin.append_, run_underlying Tryd.underlying38, sizeOf, typeInfo, hi, Builtin.lenOf, Builtin.firstCells]
      · simp [Builtin.append_, run_underlying Tryd.underlying38, sizeOf, typeInfo, hi, Builtin.lenOf, Builtin.firstCells, storeCells]
    have hk := hK _ _ (h v w hown (World.grownBy.refl w _))
    unfold Oper.wp execOp
    simp only [ho, resolve, invoke, builtin, Sem.run_bind, Sem.run_pure, Result.andThen_ok, List.map_toArray, List.map_cons, List.map_nil, hs, hx]
    rw [show (List.length ([] : List Row)) = 0 from rfl, hrun]
    exact hk
  | some ad =>
    refine wpList_append_own _ hgd s x 38 ho base 9 i0 (.string ⟨#[]⟩) 1 16 Tryd.underlying38 hi hz0 hz1 hz2 rfl (by decide) v 0 [] hs hown ad ls.length c (ls.map sv) hx (by simp) (fun j u hj => ?_) (fun u hu => ?_) (by unfold maxLen; omega) (by omega) hbase (fun v' w' h5 h6 _ => h v' w' ?_ h6)
    · rw [List.getElem?_map] at hj
      obtain ⟨l, hl, rfl⟩ := Option.map_eq_some_iff.1 hj
      have hlt := (List.getElem?_eq_some_iff.1 hl).1
      obtain ⟨he, _⟩ := h3 (by omega)
      obtain rfl := Option.some.inj he
      have := h4 j l hl
      unfold Addr.add
      by_cases hj0 : j = 0
      · subst hj0; simpa using this
      · rw [if_neg hj0]; exact this
    · obtain ⟨l, _, rfl⟩ := List.mem_map.1 hu
      rfl
    · unfold Own
      rw [Nat.zero_add, List.nil_append] at h5
      exact h5

set_option maxHeartbeats 8000000 in
set_option maxRecDepth 100000 in
theorem refCopy_any (v : Value) (L : LD) (w : World) (hv : LineAt w v L) (hn0 : L.params.length ≤ 1099511627776) (hvs : ∀ p ∈ L.params, p.vals.length ≤ 8796093022208) :
    Calls Tryd.prog 17 #[v] w fun e w' => (∃ u, e = .returned u ∧ LOwn w.heap.size u L w') ∧ Below w.heap.size w w' := by
  obtain ⟨j0, hj, hjz0, hjz1, hjz2⟩ := info_parts infoPrm
  obtain ⟨pv, rfl, A, b, o, c, rfl, h1, h2, h3, h4⟩ := hv
  obtain ⟨n, hn⟩ : ∃ n, L.params.length = n := ⟨_, rfl⟩
  rw [hn] at h1 h3 hn0 ⊢
  obtain ⟨a1, ha1⟩ : ∃ a : ByteArray, (⟨L.group.toArray⟩ : ByteArray) = a := ⟨_, rfl⟩
  obtain ⟨a2, ha2⟩ : ∃ a : ByteArray, (⟨L.name.toArray⟩ : ByteArray) = a := ⟨_, rfl⟩
  obtain ⟨a4, ha4⟩ : ∃ a : ByteArray, (⟨L.value.toArray⟩ : ByteArray) = a := ⟨_, rfl⟩
  have hfin : ∀ pv W, POwn (w.heap.size + 2) pv L.params W → LOwn w.heap.size (.agg #[.string a1, .string a2, pv, .string a4]) L W := fun pv W h => ⟨pv, by unfold sv; rw [ha1, ha2, ha4], h.less (by omega)⟩
  unfold sv
  rw [ha1, ha2, ha4]
  have hn' := Lib.hid hn
  have h3' := Lib.hid h3
  have h4' := Lib.hid h4
  have hvs' := Lib.hid hvs
  have hfin' := Lib.hid hfin
  unfold maxLen at h2
  clear ha1 ha2 ha4 hn h3 h4 hvs hfin
  go_enter Tryd.func17, Tryd.ntmps17
  go_wp2
  obtain ⟨wB, hwB⟩ : ∃ wB, (w.alloc (.cells #[.string a1, .string a2, .slice none 0 0, .string a4] 25)).alloc (.cells #[.string ⟨#[]⟩, .string ⟨#[]⟩, .slice none 0 0, .string ⟨#[]⟩] 25) = wB := ⟨_, rfl⟩
  have hbB : Below w.heap.size w wB := by rw [← hwB]; exact ((Below.refl _ _).alloc (Nat.le_refl _) _).alloc (by simp) _
  have hxB : wB.heap[w.heap.size]? = some (.cells #[.string a1, .string a2, .slice none 0 0, .string a4] 25 (0, 0)) := by
    rw [← hwB, Below.heap_alloc _ _ _ (by simp)]
    exact heap_alloc_new w _
  have hyB : wB.heap[w.heap.size + 1]? = some (.cells #[.string ⟨#[]⟩, .string ⟨#[]⟩, .slice none 0 0, .string ⟨#[]⟩] 25 (0, 0)) := by
    rw [← hwB]
    have := heap_alloc_new (w.alloc (.cells #[.string a1, .string a2, .slice none 0 0, .string a4] 25)) (.cells #[.string ⟨#[]⟩, .string ⟨#[]⟩, .slice none 0 0, .string ⟨#[]⟩] 25)
    simpa using this
  rw [hwB]
  clear hwB
  go_loopw [11] (fun s11 wr => ∃ (k : Nat) (pv : Value), s11 = .int .i64 (k : Int) ∧ k ≤ n ∧ Below w.heap.size w wr ∧ Hid (wr.heap[w.heap.size]? = some (.cells #[.string a1, .string a2, pv, .string a4] 25 (0, 0))) ∧
      Hid (wr.heap[w.heap.size + 1]? = some (.cells #[.string ⟨#[]⟩, .string ⟨#[]⟩, .slice none 0 0, .string ⟨#[]⟩] 25 (0, 0))) ∧ POwn (w.heap.size + 2) pv (L.params.take k) wr) (fun s11 wr => n - (RowKit.intOf s11).toNat)
  case atStart => exact ⟨0, _, rfl, Nat.zero_le _, hbB, Lib.hid hxB, Lib.hid hyB, POwn.nil _ _⟩
  case round =>
    obtain ⟨k, pv, rfl, hk, hbw, hx, hy, hown⟩ := hrel
    have hzw : w.heap.size + 1 < wr.heap.size := (Array.getElem?_eq_some_iff.1 hy.out).1
    obtain ⟨q0, q1, q2, q3, r0, r1, r2, r3⟩ := res4 hx.out
    by_cases hlt : k < n
    · have hv : L.params[k]? = some (L.params[k]'(by have := hn'.out; omega)) := List.getElem?_eq_getElem _
      obtain ⟨V, hV⟩ : ∃ V, L.params[k]'(by have := hn'.out; omega) = V := ⟨_, rfl⟩
      have hVm : V ∈ L.params := by rw [← hV]; exact List.getElem_mem _
      rw [hV] at hv
      obtain ⟨rfl, hg⟩ := h3'.out (by omega)
      obtain ⟨hc, u, hu, hsu⟩ := h4'.out k V hv
      rw [← hbw.cell (p := ⟨b, o + k * 2, none⟩) hg] at hc
      rw [← hbw.cell (p := ⟨b, o + k * 2 + 1, none⟩) hg] at hu
      have hVl := hvs'.out V hVm
      obtain ⟨x, hx1⟩ : ∃ x : ByteArray, (⟨V.name.toArray⟩ : ByteArray) = x := ⟨_, rfl⟩
      unfold sv at hc
      rw [hx1] at hc
      have hal : Below wr.heap.size wr ((wr.alloc (.cells #[.string x, u] 40)).alloc (.cells #[] 9)) := ((Below.refl _ _).alloc (Nat.le_refl _) _).alloc (by simp) _
      have hS := hsu.kept (below_then hbw hal)
      obtain ⟨A2, c2, rfl⟩ : ∃ A c, u = .slice A V.vals.length c := by
        obtain ⟨A, b, o, c, h, _⟩ := hsu
        exact ⟨A, c, h⟩
      have hrow := World.ownsRow_made (base := wr.heap.size + 1) (e := 9) (size := 1) (wr.alloc (.cells #[.string x, .slice A2 V.vals.length c2] 40)) #[] 0 (by simp) (by unfold maxLen; omega) rfl
      rw [show (wr.alloc (.cells #[.string x, .slice A2 V.vals.length c2] 40)).heap.size = wr.heap.size + 1 by simp] at hrow
      obtain ⟨l, hl⟩ : ∃ l, V.vals.length = l := ⟨_, rfl⟩
      rw [hl] at hu hal hS hrow hVl
      have hv' := Lib.hid hv
      have hx1' := Lib.hid hx1
      have hl' := Lib.hid hl
      clear hv hV hVm hsu hx1 hl hg
      go_wp2_with (at_builtin; refine wpList_append_strs rfl _ _ rfl (wr.heap.size + 1) (.slice (some ⟨wr.heap.size + 1, 0, none⟩) 0 0) (.slice A2 l c2) V.vals rfl rfl hrow hS ?c1 (by simp) ?_)
      case c1 => have := hl'.out; omega
      intro v2 w2 hO2 hg2
      have hz2 : wr.heap.size + 1 < w2.heap.size := by have := hg2.size; simp at this; omega
      have hb2 : Below wr.heap.size wr w2 := hal.grown hg2 (by simp; omega) (fun k hk => by
        have : wr.heap.size + 1 = k := by simpa [Value.ownBlock] using hk
        omega)
      have hpb : w2.heap[wr.heap.size]? = some (.cells #[.string x, .slice A2 l c2] 40 (0, 0)) := by
        rw [hg2.block wr.heap.size (by simp; omega) (by simp [Value.ownBlock]), Below.heap_alloc _ _ _ (by simp)]
        exact heap_alloc_new wr _
      have hx2 := (hb2.block w.heap.size (by omega)).trans hx.out
      have hy2 := (hb2.block (w.heap.size + 1) hzw).trans hy.out
      obtain ⟨us, hus, hrow0, hvals⟩ := hown
      obtain ⟨ao, cc, rfl⟩ : ∃ ao c, v2 = .slice ao V.vals.length c := by
        rcases hO2.2 with ⟨h1, h2⟩ | ⟨g, cap, cur, h1, _⟩
        · exact ⟨none, 0, by rw [h1, h2]⟩
        · exact ⟨_, _, h1⟩
      rw [hl'.out] at hO2 ⊢
      have hb3 : Below wr.heap.size wr (w2.setCell ⟨wr.heap.size, 1, none⟩ (.slice ao l cc)) := hb2.setCell (p := ⟨wr.heap.size, 1, none⟩) (Nat.le_refl _) _
      have hal3 : Below (w2.setCell ⟨wr.heap.size, 1, none⟩ (.slice ao l cc)).heap.size (w2.setCell ⟨wr.heap.size, 1, none⟩ (.slice ao l cc)) ((w2.setCell ⟨wr.heap.size, 1, none⟩ (.slice ao l cc)).alloc (.cells #[.string x, .slice ao l cc] 40)) := (Below.refl _ _).alloc (Nat.le_refl _) _
      have hb4 := below_then hb3 hal3
      have hO3 : Own (w.heap.size + 2) (.slice ao l cc) V.vals ((w2.setCell ⟨wr.heap.size, 1, none⟩ (.slice ao l cc)).alloc (.cells #[.string x, .slice ao l cc] 40)) :=
        Own.less (ownsRow_kept (ownsRow_setCell_below hO2 (a := ⟨wr.heap.size, 1, none⟩) (by simp) _) hal3) (by omega)
      have hrow4 := ownsRow_kept hrow0 hb4
      have hvals4 := fun j p u hp hu => (hvals j p u hp hu).kept hb4
      have hlk : (L.params.take k).length = k := by rw [List.length_take]; have := hn'.out; omega
      have hmore : ∀ (v' : Value) (w' : World), w'.ownsRow (w.heap.size + 2) 40 2 v' ((L.params.take k).length + 1) (pcells (L.params.take k) us ++ [.string x, .slice ao l cc]) →
          ((w2.setCell ⟨wr.heap.size, 1, none⟩ (.slice ao l cc)).alloc (.cells #[.string x, .slice ao l cc] 40)).grownBy w' pv.ownBlock → POwn (w.heap.size + 2) v' (L.params.take (k + 1)) w' := fun v' w' h5 h6 => by
        have := POwn.more (p := V) (w' := w') (v' := v') hus hrow4 hvals4 hO3 (by unfold sv; rw [hx1'.out]; exact h5) h6
        obtain ⟨hlt2, hve⟩ := List.getElem?_eq_some_iff.1 hv'.out
        rw [List.take_succ_eq_append_getElem hlt2, hve]
        exact this
      rw [hlk] at hrow4 hmore
      have hmore' := Lib.hid hmore
      have hx2' := Lib.hid hx2
      have hy2' := Lib.hid hy2
      have hbw4 := below_then hbw hb4
      obtain ⟨m0, m1, m2, m3, m4, m5, m6, m7⟩ := res4 hx2
      have s0 : w2.cell? ⟨wr.heap.size, 0, none⟩ = some (.string x) := by rw [Lib.cell_of_heap hpb]; rfl
      have s1 : w2.cell? ⟨wr.heap.size, 1, none⟩ = some (.slice A2 l c2) := by rw [Lib.cell_of_heap hpb]; rfl
      have t1 : w2.frozen? ⟨wr.heap.size, 1, none⟩ = false := Lib.frozen_of_heap hpb 1
      have hg4 : k ≤ 1099511627776 := by omega
      have hne : ¬ w.heap.size = wr.heap.size := by omega
      clear hO2 hg2 hrow hS hal hx2 hy2 hpb hrow0 hvals hvals4 hO3 hmore hb2 hb3 hlk hus q0 q1 q2 q3 r0 r1 r2 r3 hx hy
      go_wp2_with (at_builtin; refine wpList_append_own _ rfl _ _ 23 rfl (w.heap.size + 2) 40 j0 (.agg #[.string ⟨#[]⟩, .slice none 0 0]) 2 40 Tryd.underlying23 hj hjz0 hjz1 hjz2 rfl (by decide) _ _ _ rfl hrow4 ⟨w2.heap.size, 0, none⟩ 1 1 [.string x, .slice ao l cc] rfl rfl ?d1 ?d2 ?d3 ?d4 ?d5 ?_)
      case d1 =>
        intro j u hj
        match j, hj with
        | 0, hj => simp at hj; subst hj; simp [Addr.add]; rw [World.cell?_alloc_at _ _ _ _ (by simp)]; rfl
        | 1, hj => simp at hj; subst hj; simp [Addr.add]; rw [World.cell?_alloc_at _ _ _ _ (by simp)]; rfl
      case d2 => intro u hu; simp at hu; rcases hu with rfl | rfl <;> rfl
      case d3 => unfold maxLen; omega
      case d4 => omega
      case d5 => have := hbw4.size; simp; omega
      intro v5 w5 hown5 hg5 _
      have hP5 := hmore'.out v5 w5 hown5 hg5
      have hpo : ∀ g, pv.ownBlock = some g → w.heap.size + 2 ≤ g := fun g hg => (hrow4.lt g hg).1
      have hx5 : w5.heap[w.heap.size]? = some (.cells #[.string a1, .string a2, pv, .string a4] 25 (0, 0)) := by
        rw [hg5.block w.heap.size (by simp; omega) (fun e => by have := hpo _ e.symm; omega), Below.heap_alloc _ _ _ (by simp; omega), Below.heap_setCell _ _ _ _ hne]
        exact hx2'.out
      have hy5 : w5.heap[w.heap.size + 1]? = some (.cells #[.string ⟨#[]⟩, .string ⟨#[]⟩, .slice none 0 0, .string ⟨#[]⟩] 25 (0, 0)) := by
        rw [hg5.block (w.heap.size + 1) (by simp; omega) (fun e => by have := hpo _ e.symm; omega), Below.heap_alloc _ _ _ (by simp; omega), Below.heap_setCell _ _ _ _ (by show ¬ w.heap.size + 1 = wr.heap.size; omega)]
        exact hy2'.out
      have hb5 : Below w.heap.size w w5 := hbw4.grown hg5 (by simp; omega) (fun g hg => by have := hpo g hg; omega)
      obtain ⟨p0, p1, p2, p3, p4, p5, p6, p7⟩ := res4 hx5
      obtain ⟨ag, cg, rfl⟩ := hP5.form
      obtain ⟨lg, hlg⟩ : ∃ lg, (L.params.take (k + 1)).length = lg := ⟨_, rfl⟩
      rw [hlg] at hP5 ⊢
      have hP6 : POwn (w.heap.size + 2) (.slice ag lg cg) (L.params.take (k + 1)) (w5.setCell ⟨w.heap.size, 2, none⟩ (.slice ag lg cg)) := hP5.stored (a := ⟨w.heap.size, 2, none⟩) (by show w.heap.size < w.heap.size + 2; omega) _
      have hx6 : (w5.setCell ⟨w.heap.size, 2, none⟩ (.slice ag lg cg)).heap[w.heap.size]? = some (.cells #[.string a1, .string a2, .slice ag lg cg, .string a4] 25 (0, 0)) := by
        simp [World.setCell, Array.getElem?_modify, hx5]
      have hy6 : (w5.setCell ⟨w.heap.size, 2, none⟩ (.slice ag lg cg)).heap[w.heap.size + 1]? = some (.cells #[.string ⟨#[]⟩, .string ⟨#[]⟩, .slice none 0 0, .string ⟨#[]⟩] 25 (0, 0)) := by
        rw [Below.heap_setCell _ _ _ _ (by show ¬ w.heap.size + 1 = w.heap.size; omega)]; exact hy5
      have hb6 : Below w.heap.size w (w5.setCell ⟨w.heap.size, 2, none⟩ (.slice ag lg cg)) := hb5.setCell (p := ⟨w.heap.size, 2, none⟩) (Nat.le_refl _) _
      have hx6' := Lib.hid hx6
      have hy6' := Lib.hid hy6
      clear hown5 hg5 hx5 hy5 hx6 hy6 hP5 hlg hrow4 hpo m0 m1 m2 m3 m4 m5 m6 m7 s0 s1 t1
      go_wp2
      go_roundw
      case rel => exact ⟨k + 1, _, by go_num, by omega, hb6, hx6', hy6', hP6⟩
      case measure => simp [RowKit.intOf]; omega
    · rw [List.take_of_length_le (by have := hn'.out; omega)] at hown
      have hzw0 : w.heap.size < wr.heap.size := by omega
      obtain ⟨y0, y1, y2, y3, f0, f1, f2, f3⟩ := res4 hy.out
      obtain ⟨ag, cg, rfl⟩ := hown.form
      obtain ⟨lg, hlg⟩ : ∃ lg, L.params.length = lg := ⟨_, rfl⟩
      rw [hlg] at hown q2
      have hlo := Lib.hid (hfin'.out _ _ (((((hown.stored (a := ⟨w.heap.size + 1, 0, none⟩) (by show w.heap.size + 1 < w.heap.size + 2; omega) (.string a1)).stored (a := ⟨w.heap.size + 1, 1, none⟩) (by show w.heap.size + 1 < w.heap.size + 2; omega) (.string a2)).stored (a := ⟨w.heap.size + 1, 2, none⟩) (by show w.heap.size + 1 < w.heap.size + 2; omega) (.slice ag lg cg)).stored (a := ⟨w.heap.size + 1, 3, none⟩) (by show w.heap.size + 1 < w.heap.size + 2; omega) (.string a4))))
      have hbf := (((hbw.setCell (p := ⟨w.heap.size + 1, 0, none⟩) (by show w.heap.size ≤ w.heap.size + 1; omega) (.string a1)).setCell (p := ⟨w.heap.size + 1, 1, none⟩) (by show w.heap.size ≤ w.heap.size + 1; omega) (.string a2)).setCell (p := ⟨w.heap.size + 1, 2, none⟩) (by show w.heap.size ≤ w.heap.size + 1; omega) (.slice ag lg cg)).setCell (p := ⟨w.heap.size + 1, 3, none⟩) (by show w.heap.size ≤ w.heap.size + 1; omega) (.string a4)
      clear hlg hx hy hown
      go_wp2
      exact bodyPost_ret (v := .agg #[.string a1, .string a2, .slice ag lg cg, .string a4]) (by simp [results, Tryd.results17, go_sem, y0, y1, y2, y3]) rfl ⟨⟨_, rfl, hlo.out⟩, hbf⟩
end Go.Proofs.YthkcjfoihieooaaDoor.Li
