import Derived.Test.YthnnpnlapjlnoaaGreatDoorMg9
import Derived.Laws.OwnMore
import Derived.Test.YthnnpnlapjlnoaaGreatDoorMg7
import Derived.Test.YthnnpnlapjlnoaaGreatDoorMg8

/-
  THE WALK OF line.Parse.
-/
set_option linter.unusedVariables false
namespace Go.Proofs.YthnnpnlapjlnoaaGreatDoor.Li
open Go.Lib Go.RowKit Bu

theorem POwn.form {B : Nat} {v : Value} {ps : List PD} {w : World} (h : POwn B v ps w) : ∃ ao c, v = .slice ao ps.length c := by
  obtain ⟨vs, _, h, _⟩ := h
  rcases h.2 with ⟨h1, h2⟩ | ⟨g, cap, cur, h1, _⟩
  · exact ⟨none, 0, by rw [h1, h2]⟩
  · exact ⟨_, _, h1⟩
theorem POwn.stored {w : World} {B : Nat} {v : Value} {ps : List PD} (h : POwn B v ps w) {a : Addr} (ha : a.block < B) (u : Value) : POwn B v ps (w.setCell a u) := by
  obtain ⟨vs, h1, h2, h3⟩ := h
  exact ⟨vs, h1, ownsRow_setCell_below h2 ha u, fun j p x hp hx => ownsRow_setCell_below (h3 j p x hp hx) ha u⟩
/-- what Parse answers -/
def ParseP (B : Nat) (t : Row) (e : Ending) (w' : World) : Prop :=
  (∃ n : Nat, parse t = .bad n ∧ n ≠ 0 ∧ n < 100 ∧ e = .returned (.tuple #[.agg #[.string ⟨#[]⟩, .string ⟨#[]⟩, .slice none 0 0, .string ⟨#[]⟩], .int .i64 (n : Int)])) ∨
  ∃ (L : LD) (v : Value), parse t = .ok L ∧ e = .returned (.tuple #[v, .int .i64 0]) ∧ LOwn B v L w'

theorem names_len {l g n r : Row} (h : namesC l = some (g, n, r)) : r.length ≤ l.length := by
  unfold namesC at h
  cases hc : nameC l with
  | none => rw [hc] at h; cases h
  | some p =>
    obtain ⟨m, q⟩ := p
    have h1 := congrArg List.length (nameC_some hc).1
    rw [List.length_append] at h1
    rw [hc] at h
    dsimp only at h
    split at h
    · obtain ⟨⟨p1, p2⟩, hp, he⟩ := Option.map_eq_some_iff.1 h
      simp only [Prod.mk.injEq] at he
      obtain ⟨_, _, rfl⟩ := he
      have h2 := congrArg List.length (nameC_some hp).1
      rw [List.length_append, List.length_tail] at h2
      omega
    · have h := Option.some.inj h
      simp only [Prod.mk.injEq] at h
      obtain ⟨_, _, rfl⟩ := h
      omega
theorem res4 {W : World} {b : Nat} {x0 x1 x2 x3 : Value} {t : TypeId} (hk : W.heap[b]? = some (.cells #[x0, x1, x2, x3] t (0, 0))) :
    W.cell? ⟨b, 0, none⟩ = some x0 ∧ W.cell? ⟨b, 1, none⟩ = some x1 ∧ W.cell? ⟨b, 2, none⟩ = some x2 ∧ W.cell? ⟨b, 3, none⟩ = some x3 ∧
    W.frozen? ⟨b, 0, none⟩ = false ∧ W.frozen? ⟨b, 1, none⟩ = false ∧ W.frozen? ⟨b, 2, none⟩ = false ∧ W.frozen? ⟨b, 3, none⟩ = false := by
  refine ⟨?_, ?_, ?_, ?_, Lib.frozen_of_heap hk 0, Lib.frozen_of_heap hk 1, Lib.frozen_of_heap hk 2, Lib.frozen_of_heap hk 3⟩
  all_goals rw [Lib.cell_of_heap hk]; rfl
theorem set4 {w w1 : World} (h : Below w.heap.size w w1) (x0 x1 x2 x3 : Value) : Below w.heap.size w ((((w1.setCell ⟨w.heap.size, 0, none⟩ x0).setCell ⟨w.heap.size, 1, none⟩ x1).setCell ⟨w.heap.size, 2, none⟩ x2).setCell ⟨w.heap.size, 3, none⟩ x3) :=
  (((h.setCell (p := ⟨w.heap.size, 0, none⟩) (Nat.le_refl _) _).setCell (p := ⟨w.heap.size, 1, none⟩) (Nat.le_refl _) _).setCell (p := ⟨w.heap.size, 2, none⟩) (Nat.le_refl _) _).setCell (p := ⟨w.heap.size, 3, none⟩) (Nat.le_refl _) _

set_option maxHeartbeats 8000000 in
set_option maxRecDepth 100000 in
theorem parse_any (s : ByteArray) (w : World) (hT : Ch.Tabs w) (hs : s.size ≤ 1099511627776) :
    Calls Tryz.prog 46 #[.string s] w fun e w' => ParseP w.heap.size s.data.toList e w' ∧ Below w.heap.size w w' := by
  have hsz := Lib.hid (Lib.size_eq s)
  have cT := plainT_any s (w.alloc (.cells #[.string ⟨#[]⟩, .string ⟨#[]⟩, .slice none 0 0, .string ⟨#[]⟩] 41)) (Ch.tabs_below hT ((Below.refl _ _).alloc (Nat.le_refl _) _)) (by omega)
  have hT' := Lib.hid hT
  clear hT
  obtain ⟨O, hO⟩ : ∃ O, okT s.data.toList = O := ⟨_, rfl⟩
  rw [hO] at cT
  have hO' := Lib.hid hO
  clear hO
  go_enter Tryz.func46, Tryz.ntmps46
  go_wp2_with fail
  go_at_call 74
  refine cT.mono ?_
  rintro e w1 ⟨rfl, hb0⟩
  clear cT
  have hz1 : w.heap.size < w1.heap.size := by have := hb0.size; simp at this; omega
  have hk1 : w1.heap[w.heap.size]? = some (.cells #[.string ⟨#[]⟩, .string ⟨#[]⟩, .slice none 0 0, .string ⟨#[]⟩] 41 (0, 0)) := by
    rw [hb0.block w.heap.size (by simp)]
    exact heap_alloc_new w _
  have hb1 : Below w.heap.size w w1 := ((Below.refl _ _).alloc (Nat.le_refl _) _).trans (hb0.mono (by simp))
  clear hb0
  have hfinB : ∀ n : Nat, n ≠ 0 → n < 100 → parse s.data.toList = .bad n → ∀ W, ParseP w.heap.size s.data.toList (.returned (.tuple #[.agg #[.string ⟨#[]⟩, .string ⟨#[]⟩, .slice none 0 0, .string ⟨#[]⟩], .int .i64 (n : Int)])) W := fun n h0 h1 h W => .inl ⟨n, h, h0, h1, rfl⟩
  have hfinB' := Lib.hid hfinB
  clear hfinB
  cases O
  · have hf := Lib.hid (hfinB'.out 10 (by decide) (by decide) (parse_text (fun h => by
      have := hO'.out
      unfold okT at this
      rw [h.1, h.2] at this
      exact absurd this (by decide))))
    obtain ⟨c0, c1, c2, c3, f0, f1, f2, f3⟩ := res4 hk1
    clear hk1
    go_wp2
    exact bodyPost_ret (v := .tuple #[.agg #[.string ⟨#[]⟩, .string ⟨#[]⟩, .slice none 0 0, .string ⟨#[]⟩], .int .i64 10]) (by simp [results, Tryz.results46, go_sem, c0, c1, c2, c3]) rfl ⟨hf.out _, set4 hb1 _ _ _ _⟩
  · have htx : Ch.valid s.data.toList = true ∧ ends s.data.toList = false := okT_tx hO'.out
    have htx' := Lib.hid htx
    have hk1' := Lib.hid hk1
    clear htx hk1
    go_wp2_with fail
    go_at_call 75
    refine (cutNames_any s w1 (by omega)).mono ?_
    rintro e w2 ⟨hc, hb0⟩
    have hk2 : w2.heap[w.heap.size]? = some (.cells #[.string ⟨#[]⟩, .string ⟨#[]⟩, .slice none 0 0, .string ⟨#[]⟩] 41 (0, 0)) := (hb0.block _ hz1).trans hk1'.out
    have hz2 : w.heap.size < w2.heap.size := Nat.lt_of_lt_of_le hz1 hb0.size
    have hb2 := below_then hb1 hb0
    clear hb0
    rcases hc with ⟨h1, rfl⟩ | ⟨g, n, r, h1, rfl⟩
    · have hf := Lib.hid (hfinB'.out 30 (by decide) (by decide) (parse_name htx'.out h1))
      obtain ⟨c0, c1, c2, c3, f0, f1, f2, f3⟩ := res4 hk2
      clear hk2 h1
      go_wp2
      exact bodyPost_ret (v := .tuple #[.agg #[.string ⟨#[]⟩, .string ⟨#[]⟩, .slice none 0 0, .string ⟨#[]⟩], .int .i64 30]) (by simp [results, Tryz.results46, go_sem, c0, c1, c2, c3]) rfl ⟨hf.out _, set4 hb2 _ _ _ _⟩
    · have hrl : r.size ≤ s.size := by
        have := names_len h1
        rw [← Lib.size_eq, ← Lib.size_eq] at this
        exact this
      have cP := cutParams_any r w2 (by omega)
      have h1' := Lib.hid h1
      have hk2' := Lib.hid hk2
      clear h1 hk2
      go_wp2_with fail
      go_at_call 76
      refine cP.mono ?_
      rintro e w3 ⟨hc, hb0⟩
      clear cP
      have hk3 : w3.heap[w.heap.size]? = some (.cells #[.string ⟨#[]⟩, .string ⟨#[]⟩, .slice none 0 0, .string ⟨#[]⟩] 41 (0, 0)) := (hb0.block _ hz2).trans hk2'.out
      have hz3 : w.heap.size < w3.heap.size := Nat.lt_of_lt_of_le hz2 hb0.size
      have hb3 := below_then hb2 hb0
      clear hb0
      rcases hc with ⟨m, h2, hm0, hm1, rfl⟩ | ⟨q, v, ps, h2, h59, hq, rfl, hown⟩
      · have hf := Lib.hid (hfinB'.out m hm0 hm1 (by rw [parse_fin htx'.out h1'.out]; exact h2 _ _ _))
        obtain ⟨c0, c1, c2, c3, f0, f1, f2, f3⟩ := res4 hk3
        have d1 : ((m : Int) != 0) = true := bne_iff_ne.2 (by omega)
        have d2 : ((m : Int) == 0) = false := beq_eq_false_iff_ne.2 (by omega)
        clear hk3 h2
        go_wp2
        exact bodyPost_ret (v := .tuple #[.agg #[.string ⟨#[]⟩, .string ⟨#[]⟩, .slice none 0 0, .string ⟨#[]⟩], .int .i64 (m : Int)]) (by simp [results, Tryz.results46, go_sem, c0, c1, c2, c3]) rfl ⟨hf.out _, set4 hb3 _ _ _ _⟩
      · have hpf : parse s.data.toList = if q.data.toList.head? = some 58 then .ok ⟨g.data.toList, n.data.toList, ps, q.data.toList.tail⟩ else .bad 31 := by
          rw [parse_fin htx'.out h1'.out, h2, fin_end h59, List.nil_append]
        have hC := cutPre_any q 58 w3
        have hpf' := Lib.hid hpf
        obtain ⟨c0, c1, c2, c3, f0, f1, f2, f3⟩ := res4 hk3
        clear hk3 h2 h59 hpf
        obtain ⟨ao, c, rfl⟩ := hown.form
        have hown' := Lib.hid hown
        obtain ⟨l, hl⟩ : ∃ l, ps.length = l := ⟨_, rfl⟩
        rw [hl] at hown' ⊢
        clear hown hl
        go_wp2_with fail
        go_at_call 77
        refine hC.mono ?_
        rintro e w4 ⟨hc, rfl⟩
        clear hC
        rcases hc with ⟨h5, rfl⟩ | ⟨h5, x, hx, rfl⟩
        · have hf := Lib.hid (hfinB'.out 31 (by decide) (by decide) (by rw [hpf'.out, if_neg h5]))
          clear h5
          go_wp2
          exact bodyPost_ret (v := .tuple #[.agg #[.string ⟨#[]⟩, .string ⟨#[]⟩, .slice none 0 0, .string ⟨#[]⟩], .int .i64 31]) (by simp [results, Tryz.results46, go_sem, c0, c1, c2, c3]) rfl ⟨hf.out _, set4 hb3 _ _ _ _⟩
        · have hf : ∀ W, POwn w.heap.size (.slice ao l c) ps W → ParseP w.heap.size s.data.toList (.returned (.tuple #[.agg #[.string g, .string n, .slice ao l c, .string x], .int .i64 0])) W := fun W hW =>
            .inr ⟨⟨g.data.toList, n.data.toList, ps, x.data.toList⟩, _, by rw [hpf'.out, if_pos h5, hx], rfl, .slice ao l c, by simp only [sv_data], hW⟩
          have hf' := Lib.hid hf
          have hO4 : ∀ x0 x1 x2 x3, POwn w.heap.size (.slice ao l c) ps ((((w3.setCell ⟨w.heap.size, 0, none⟩ x0).setCell ⟨w.heap.size, 1, none⟩ x1).setCell ⟨w.heap.size, 2, none⟩ x2).setCell ⟨w.heap.size, 3, none⟩ x3) := fun x0 x1 x2 x3 =>
            ((((hown'.out.stored (a := ⟨w.heap.size, 0, none⟩) hz2 x0).stored (a := ⟨w.heap.size, 1, none⟩) hz2 x1).stored (a := ⟨w.heap.size, 2, none⟩) hz2 x2).stored (a := ⟨w.heap.size, 3, none⟩) hz2 x3).less (by omega)
          have hO4' := Lib.hid hO4
          clear h5 hx hf hO4
          go_wp2
          exact bodyPost_ret (v := .tuple #[.agg #[.string g, .string n, .slice ao l c, .string x], .int .i64 0]) (by simp [results, Tryz.results46, go_sem, c0, c1, c2, c3]) rfl ⟨hf'.out _ (hO4'.out _ _ _ _), set4 hb3 _ _ _ _⟩
end Go.Proofs.YthnnpnlapjlnoaaGreatDoor.Li

/-
  THE WALK OF THE REFERENCE's Copy.
-/
set_option linter.unusedVariables false
namespace Go.Proofs.YthnnpnlapjlnoaaGreatDoor.Li
open Go.Lib Go.RowKit Bu

/-- append onto an empty row of the call's own, of strings that lie wherever: one law for nil, empty and other sources -/
theorem wpList_append_strs {w : World} {ops : Array Oper} {rest : List Oper} {o : Oper} {a : Act} {Q : Exit → Act → World → Prop} (hgd : o.guard = none) (s x : Operand)
    (ho : o.op = .call { callee := .builtin .append, args := #[s, x], argTypes := #[45, 45] }) (base : Nat) (v xv : Value) (ls : List Row) (hs : a.eval s = v) (hx : a.eval x = xv)
    (hown : w.ownsRow base 9 1 v 0 []) (hS : StrsAt w xv ls) (hls : ls.length ≤ 8796093022208) (hbase : base ≤ w.heap.size)
    (h : ∀ v' w', Own base v' ls w' → w.grownBy w' v.ownBlock → wpList Tryz.prog ops Q rest (a.put o.dst v') w') : wpList Tryz.prog ops Q (o :: rest) a w := by
  obtain ⟨i0, hi, hz0, hz1, hz2⟩ := info_parts infoStr
  obtain ⟨A, b, off, c, rfl, h1, h2, h3, h4⟩ := hS
  cases A with
  | none =>
    have hl : ls = [] := by
      cases ls with
      | nil => rfl
      | cons y t =>
        obtain ⟨h5, _⟩ := h3 (by simp)
        cases h5
    subst hl
    refine wpList_plain hgd fun K hK => ?_
    have hrun : (Builtin.append_ #[45, 45] o.type #[v, .slice none 0 c]).run Tryz.prog w = .ok v w := by
      rcases hown.2 with ⟨rfl, _⟩ | ⟨g, cap, cur, rfl, _, _, hnc, _⟩
      · simp [Builtin.append_, run_underlying Tryz.underlying45, sizeOf, typeInfo, hi, Builtin.lenOf, Builtin.firstCells]
      · simp [Builtin.append_, run_underlying Tryz.underlying45, sizeOf, typeInfo, hi, Builtin.lenOf, Builtin.firstCells, storeCells]
    have hk := hK _ _ (h v w hown (World.grownBy.refl w _))
    unfold Oper.wp execOp
    simp only [ho, resolve, invoke, builtin, Sem.run_bind, Sem.run_pure, Result.andThen_ok, List.map_toArray, List.map_cons, List.map_nil, hs, hx]
    rw [show (List.length ([] : List Row)) = 0 from rfl, hrun]
    exact hk
  | some ad =>
    refine wpList_append_own _ hgd s x 45 ho base 9 i0 (.string ⟨#[]⟩) 1 16 Tryz.underlying45 hi hz0 hz1 hz2 rfl (by decide) v 0 [] hs hown ad ls.length c (ls.map sv) hx (by simp) (fun j u hj => ?_) (fun u hu => ?_) (by unfold maxLen; omega) (by omega) hbase (fun v' w' h5 h6 _ => h v' w' ?_ h6)
    · rw [List.getElem?_map] at hj
      obtain ⟨l, hl, rfl⟩ := Option.map_eq_some_iff.1 hj
      have hlt := (List.getElem?_eq_some_iff.1 hl).1
      obtain ⟨he, _⟩ := h3 (by omega)
      obtain rfl := Option.some.inj he
      have := h4 j l hl
      unfold Addr.add
      by_cases hj0 : j = 0
      · subst hj0; simpa using this
      · rw [if_neg hj0]; exact this
    · obtain ⟨l, _, rfl⟩ := List.mem_map.1 hu
      rfl
    · unfold Own
      rw [Nat.zero_add, List.nil_append] at h5
      exact h5

set_option maxHeartbeats 8000000 in
set_option maxRecDepth 100000 in
theorem refCopy_any (v : Value) (L : LD) (w : World) (hv : LineAt w v L) (hn0 : L.params.length ≤ 1099511627776) (hvs : ∀ p ∈ L.params, p.vals.length ≤ 8796093022208) :
    Calls Tryz.prog 17 #[v] w fun e w' => (∃ u, e = .returned u ∧ LOwn w.heap.size u L w') ∧ Below w.heap.size w w' := by
  obtain ⟨j0, hj, hjz0, hjz1, hjz2⟩ := info_parts infoPrm
  obtain ⟨pv, rfl, A, b, o, c, rfl, h1, h2, h3, h4⟩ := hv
  obtain ⟨n, hn⟩ : ∃ n, L.params.length = n := ⟨_, rfl⟩
  rw [hn] at h1 h3 hn0 ⊢
  obtain ⟨a1, ha1⟩ : ∃ a : ByteArray, (⟨L.group.toArray⟩ : ByteArray) = a := ⟨_, rfl⟩
  obtain ⟨a2, ha2⟩ : ∃ a : ByteArray, (⟨L.name.toArray⟩ : ByteArray) = a := ⟨_, rfl⟩
  obtain ⟨a4, ha4⟩ : ∃ a : ByteArray, (⟨L.value.toArray⟩ : ByteArray) = a := ⟨_, rfl⟩
  have hfin : ∀ pv W, POwn (w.heap.size + 2) pv L.params W → LOwn w.heap.size (.agg #[.string a1, .string a2, pv, .string a4]) L W := fun pv W h => ⟨pv, by unfold sv; rw [ha1, ha2, ha4], h.less (by omega)⟩
  unfold sv
  rw [ha1, ha2, ha4]
  have hn' := Lib.hid hn
  have h3' := Lib.hid h3
  have h4' := Lib.hid h4
  have hvs' := Lib.hid hvs
  have hfin' := Lib.hid hfin
  unfold maxLen at h2
  clear ha1 ha2 ha4 hn h3 h4 hvs hfin
  go_enter Tryz.func17, Tryz.ntmps17
  go_wp2
  obtain ⟨wB, hwB⟩ : ∃ wB, (w.alloc (.cells #[.string a1, .string a2, .slice none 0 0, .string a4] 41)).alloc (.cells #[.string ⟨#[]⟩, .string ⟨#[]⟩, .slice none 0 0, .string ⟨#[]⟩] 41) = wB := ⟨_, rfl⟩
  have hbB : Below w.heap.size w wB := by rw [← hwB]; exact ((Below.refl _ _).alloc (Nat.le_refl _) _).alloc (by simp) _
  have hxB : wB.heap[w.heap.size]? = some (.cells #[.string a1, .string a2, .slice none 0 0, .string a4] 41 (0, 0)) := by
    rw [← hwB, Below.heap_alloc _ _ _ (by simp)]
    exact heap_alloc_new w _
  have hyB : wB.heap[w.heap.size + 1]? = some (.cells #[.string ⟨#[]⟩, .string ⟨#[]⟩, .slice none 0 0, .string ⟨#[]⟩] 41 (0, 0)) := by
    rw [← hwB]
    have := heap_alloc_new (w.alloc (.cells #[.string a1, .string a2, .slice none 0 0, .string a4] 41)) (.cells #[.string ⟨#[]⟩, .string ⟨#[]⟩, .slice none 0 0, .string ⟨#[]⟩] 41)
    simpa using this
  rw [hwB]
  clear hwB
  go_loopw [11] (fun s11 wr => ∃ (k : Nat) (pv : Value), s11 = .int .i64 (k : Int) ∧ k ≤ n ∧ Below w.heap.size w wr ∧ Hid (wr.heap[w.heap.size]? = some (.cells #[.string a1, .string a2, pv, .string a4] 41 (0, 0))) ∧
      Hid (wr.heap[w.heap.size + 1]? = some (.cells #[.string ⟨#[]⟩, .string ⟨#[]⟩, .slice none 0 0, .string ⟨#[]⟩] 41 (0, 0))) ∧ POwn (w.heap.size + 2) pv (L.params.take k) wr) (fun s11 wr => n - (RowKit.intOf s11).toNat)
  case atStart => exact ⟨0, _, rfl, Nat.zero_le _, hbB, Lib.hid hxB, Lib.hid hyB, POwn.nil _ _⟩
  case round =>
    obtain ⟨k, pv, rfl, hk, hbw, hx, hy, hown⟩ := hrel
    have hzw : w.heap.size + 1 < wr.heap.size := (Array.getElem?_eq_some_iff.1 hy.out).1
    obtain ⟨q0, q1, q2, q3, r0, r1, r2, r3⟩ := res4 hx.out
    by_cases hlt : k < n
    · have hv : L.params[k]? = some (L.params[k]'(by have := hn'.out; omega)) := List.getElem?_eq_getElem _
      obtain ⟨V, hV⟩ : ∃ V, L.params[k]'(by have := hn'.out; omega) = V := ⟨_, rfl⟩
      have hVm : V ∈ L.params := by rw [← hV]; exact List.getElem_mem _
      rw [hV] at hv
      obtain ⟨rfl, hg⟩ := h3'.out (by omega)
      obtain ⟨hc, u, hu, hsu⟩ := h4'.out k V hv
      rw [← hbw.cell (p := ⟨b, o + k * 2, none⟩) hg] at hc
      rw [← hbw.cell (p := ⟨b, o + k * 2 + 1, none⟩) hg] at hu
      have hVl := hvs'.out V hVm
      obtain ⟨x, hx1⟩ : ∃ x : ByteArray, (⟨V.name.toArray⟩ : ByteArray) = x := ⟨_, rfl⟩
      unfold sv at hc
      rw [hx1] at hc
      have hal : Below wr.heap.size wr ((wr.alloc (.cells #[.string x, u] 47)).alloc (.cells #[] 9)) := ((Below.refl _ _).alloc (Nat.le_refl _) _).alloc (by simp) _
      have hS := hsu.kept (below_then hbw hal)
      obtain ⟨A2, c2, rfl⟩ : ∃ A c, u = .slice A V.vals.length c := by
        obtain ⟨A, b, o, c, h, _⟩ := hsu
        exact ⟨A, c, h⟩
      have hrow := World.ownsRow_made (base := wr.heap.size + 1) (e := 9) (size := 1) (wr.alloc (.cells #[.string x, .slice A2 V.vals.length c2] 47)) #[] 0 (by simp) (by unfold maxLen; omega) rfl
      rw [show (wr.alloc (.cells #[.string x, .slice A2 V.vals.length c2] 47)).heap.size = wr.heap.size + 1 by simp] at hrow
      obtain ⟨l, hl⟩ : ∃ l, V.vals.length = l := ⟨_, rfl⟩
      rw [hl] at hu hal hS hrow hVl
      have hv' := Lib.hid hv
      have hx1' := Lib.hid hx1
      have hl' := Lib.hid hl
      clear hv hV hVm hsu hx1 hl hg
      go_wp2_with (at_builtin; refine wpList_append_strs rfl _ _ rfl (wr.heap.size + 1) (.slice (some ⟨wr.heap.size + 1, 0, none⟩) 0 0) (.slice A2 l c2) V.vals rfl rfl hrow hS ?c1 (by simp) ?_)
      case c1 => have := hl'.out; omega
      intro v2 w2 hO2 hg2
      have hz2 : wr.heap.size + 1 < w2.heap.size := by have := hg2.size; simp at this; omega
      have hb2 : Below wr.heap.size wr w2 := hal.grown hg2 (by simp; omega) (fun k hk => by
        have : wr.heap.size + 1 = k := by simpa [Value.ownBlock] using hk
        omega)
      have hpb : w2.heap[wr.heap.size]? = some (.cells #[.string x, .slice A2 l c2] 47 (0, 0)) := by
        rw [hg2.block wr.heap.size (by simp; omega) (by simp [Value.ownBlock]), Below.heap_alloc _ _ _ (by simp)]
        exact heap_alloc_new wr _
      have hx2 := (hb2.block w.heap.size (by omega)).trans hx.out
      have hy2 := (hb2.block (w.heap.size + 1) hzw).trans hy.out
      obtain ⟨us, hus, hrow0, hvals⟩ := hown
      obtain ⟨ao, cc, rfl⟩ : ∃ ao c, v2 = .slice ao V.vals.length c := by
        rcases hO2.2 with ⟨h1, h2⟩ | ⟨g, cap, cur, h1, _⟩
        · exact ⟨none, 0, by rw [h1, h2]⟩
        · exact ⟨_, _, h1⟩
      rw [hl'.out] at hO2 ⊢
      have hb3 : Below wr.heap.size wr (w2.setCell ⟨wr.heap.size, 1, none⟩ (.slice ao l cc)) := hb2.setCell (p := ⟨wr.heap.size, 1, none⟩) (Nat.le_refl _) _
      have hal3 : Below (w2.setCell ⟨wr.heap.size, 1, none⟩ (.slice ao l cc)).heap.size (w2.setCell ⟨wr.heap.size, 1, none⟩ (.slice ao l cc)) ((w2.setCell ⟨wr.heap.size, 1, none⟩ (.slice ao l cc)).alloc (.cells #[.string x, .slice ao l cc] 47)) := (Below.refl _ _).alloc (Nat.le_refl _) _
      have hb4 := below_then hb3 hal3
      have hO3 : Own (w.heap.size + 2) (.slice ao l cc) V.vals ((w2.setCell ⟨wr.heap.size, 1, none⟩ (.slice ao l cc)).alloc (.cells #[.string x, .slice ao l cc] 47)) :=
        Own.less (ownsRow_kept (ownsRow_setCell_below hO2 (a := ⟨wr.heap.size, 1, none⟩) (by simp) _) hal3) (by omega)
      have hrow4 := ownsRow_kept hrow0 hb4
      have hvals4 := fun j p u hp hu => (hvals j p u hp hu).kept hb4
      have hlk : (L.params.take k).length = k := by rw [List.length_take]; have := hn'.out; omega
      have hmore : ∀ (v' : Value) (w' : World), w'.ownsRow (w.heap.size + 2) 47 2 v' ((L.params.take k).length + 1) (pcells (L.params.take k) us ++ [.string x, .slice ao l cc]) →
          ((w2.setCell ⟨wr.heap.size, 1, none⟩ (.slice ao l cc)).alloc (.cells #[.string x, .slice ao l cc] 47)).grownBy w' pv.ownBlock → POwn (w.heap.size + 2) v' (L.params.take (k + 1)) w' := fun v' w' h5 h6 => by
        have := POwn.more (p := V) (w' := w') (v' := v') hus hrow4 hvals4 hO3 (by unfold sv; rw [hx1'.out]; exact h5) h6
        obtain ⟨hlt2, hve⟩ := List.getElem?_eq_some_iff.1 hv'.out
        rw [List.take_succ_eq_append_getElem hlt2, hve]
        exact this
      rw [hlk] at hrow4 hmore
      have hmore' := Lib.hid hmore
      have hx2' := Lib.hid hx2
      have hy2' := Lib.hid hy2
      have hbw4 := below_then hbw hb4
      obtain ⟨m0, m1, m2, m3, m4, m5, m6, m7⟩ := res4 hx2
      have s0 : w2.cell? ⟨wr.heap.size, 0, none⟩ = some (.string x) := by rw [Lib.cell_of_heap hpb]; rfl
      have s1 : w2.cell? ⟨wr.heap.size, 1, none⟩ = some (.slice A2 l c2) := by rw [Lib.cell_of_heap hpb]; rfl
      have t1 : w2.frozen? ⟨wr.heap.size, 1, none⟩ = false := Lib.frozen_of_heap hpb 1
      have hg4 : k ≤ 1099511627776 := by omega
      have hne : ¬ w.heap.size = wr.heap.size := by omega
      clear hO2 hg2 hrow hS hal hx2 hy2 hpb hrow0 hvals hvals4 hO3 hmore hb2 hb3 hlk hus q0 q1 q2 q3 r0 r1 r2 r3 hx hy
      go_wp2_with (at_builtin; refine wpList_append_own _ rfl _ _ 39 rfl (w.heap.size + 2) 47 j0 (.agg #[.string ⟨#[]⟩, .slice none 0 0]) 2 40 Tryz.underlying39 hj hjz0 hjz1 hjz2 rfl (by decide) _ _ _ rfl hrow4 ⟨w2.heap.size, 0, none⟩ 1 1 [.string x, .slice ao l cc] rfl rfl ?d1 ?d2 ?d3 ?d4 ?d5 ?_)
      case d1 =>
        intro j u hj
        match j, hj with
        | 0, hj => simp at hj; subst hj; simp [Addr.add]; rw [World.cell?_alloc_at _ _ _ _ (by simp)]; rfl
        | 1, hj => simp at hj; subst hj; simp [Addr.add]; rw [World.cell?_alloc_at _ _ _ _ (by simp)]; rfl
      case d2 => intro u hu; simp at hu; rcases hu with rfl | rfl <;> rfl
      case d3 => unfold maxLen; omega
      case d4 => omega
      case d5 => have := hbw4.size; simp; omega
      intro v5 w5 hown5 hg5 _
      have hP5 := hmore'.out v5 w5 hown5 hg5
      have hpo : ∀ g, pv.ownBlock = some g → w.heap.size + 2 ≤ g := fun g hg => (hrow4.lt g hg).1
      have hx5 : w5.heap[w.heap.size]? = some (.cells #[.string a1, .string a2, pv, .string a4] 41 (0, 0)) := by
        rw [hg5.block w.heap.size (by simp; omega) (fun e => by have := hpo _ e.symm; omega), Below.heap_alloc _ _ _ (by simp; omega), Below.heap_setCell _ _ _ _ hne]
        exact hx2'.out
      have hy5 : w5.heap[w.heap.size + 1]? = some (.cells #[.string ⟨#[]⟩, .string ⟨#[]⟩, .slice none 0 0, .string ⟨#[]⟩] 41 (0, 0)) := by
        rw [hg5.block (w.heap.size + 1) (by simp; omega) (fun e => by have := hpo _ e.symm; omega), Below.heap_alloc _ _ _ (by simp; omega), Below.heap_setCell _ _ _ _ (by show ¬ w.heap.size + 1 = wr.heap.size; omega)]
        exact hy2'.out
      have hb5 : Below w.heap.size w w5 := hbw4.grown hg5 (by simp; omega) (fun g hg => by have := hpo g hg; omega)
      obtain ⟨p0, p1, p2, p3, p4, p5, p6, p7⟩ := res4 hx5
      obtain ⟨ag, cg, rfl⟩ := hP5.form
      obtain ⟨lg, hlg⟩ : ∃ lg, (L.params.take (k + 1)).length = lg := ⟨_, rfl⟩
      rw [hlg] at hP5 ⊢
      have hP6 : POwn (w.heap.size + 2) (.slice ag lg cg) (L.params.take (k + 1)) (w5.setCell ⟨w.heap.size, 2, none⟩ (.slice ag lg cg)) := hP5.stored (a := ⟨w.heap.size, 2, none⟩) (by show w.heap.size < w.heap.size + 2; omega) _
      have hx6 : (w5.setCell ⟨w.heap.size, 2, none⟩ (.slice ag lg cg)).heap[w.heap.size]? = some (.cells #[.string a1, .string a2, .slice ag lg cg, .string a4] 41 (0, 0)) := by
        simp [World.setCell, Array.getElem?_modify, hx5]
      have hy6 : (w5.setCell ⟨w.heap.size, 2, none⟩ (.slice ag lg cg)).heap[w.heap.size + 1]? = some (.cells #[.string ⟨#[]⟩, .string ⟨#[]⟩, .slice none 0 0, .string ⟨#[]⟩] 41 (0, 0)) := by
        rw [Below.heap_setCell _ _ _ _ (by show ¬ w.heap.size + 1 = w.heap.size; omega)]; exact hy5
      have hb6 : Below w.heap.size w (w5.setCell ⟨w.heap.size, 2, none⟩ (.slice ag lg cg)) := hb5.setCell (p := ⟨w.heap.size, 2, none⟩) (Nat.le_refl _) _
      have hx6' := Lib.hid hx6
      have hy6' := Lib.hid hy6
      clear hown5 hg5 hx5 hy5 hx6 hy6 hP5 hlg hrow4 hpo m0 m1 m2 m3 m4 m5 m6 m7 s0 s1 t1
      go_wp2
      go_roundw
      case rel => exact ⟨k + 1, _, by go_num, by omega, hb6, hx6', hy6', hP6⟩
      case measure => simp [RowKit.intOf]; omega
    · rw [List.take_of_length_le (by have := hn'.out; omega)] at hown
      have hzw0 : w.heap.size < wr.heap.size := by omega
      obtain ⟨y0, y1, y2, y3, f0, f1, f2, f3⟩ := res4 hy.out
      obtain ⟨ag, cg, rfl⟩ := hown.form
      obtain ⟨lg, hlg⟩ : ∃ lg, L.params.length = lg := ⟨_, rfl⟩
      rw [hlg] at hown q2
      have hlo := Lib.hid (hfin'.out _ _ (((((hown.stored (a := ⟨w.heap.size + 1, 0, none⟩) (by show w.heap.size + 1 < w.heap.size + 2; omega) (.string a1)).stored (a := ⟨w.heap.size + 1, 1, none⟩) (by show w.heap.size + 1 < w.heap.size + 2; omega) (.string a2)).stored (a := ⟨w.heap.size + 1, 2, none⟩) (by show w.heap.size + 1 < w.heap.size + 2; omega) (.slice ag lg cg)).stored (a := ⟨w.heap.size + 1, 3, none⟩) (by show w.heap.size + 1 < w.heap.size + 2; omega) (.string a4))))
      have hbf := (((hbw.setCell (p := ⟨w.heap.size + 1, 0, none⟩) (by show w.heap.size ≤ w.heap.size + 1; omega) (.string a1)).setCell (p := ⟨w.heap.size + 1, 1, none⟩) (by show w.heap.size ≤ w.heap.size + 1; omega) (.string a2)).setCell (p := ⟨w.heap.size + 1, 2, none⟩) (by show w.heap.size ≤ w.heap.size + 1; omega) (.slice ag lg cg)).setCell (p := ⟨w.heap.size + 1, 3, none⟩) (by show w.heap.size ≤ w.heap.size + 1; omega) (.string a4)
      clear hlg hx hy hown
      go_wp2
      exact bodyPost_ret (v := .agg #[.string a1, .string a2, .slice ag lg cg, .string a4]) (by simp [results, Tryz.results17, go_sem, y0, y1, y2, y3]) rfl ⟨⟨_, rfl, hlo.out⟩, hbf⟩
end Go.Proofs.YthnnpnlapjlnoaaGreatDoor.Li

/-
  WALKS OF THE REFERENCE's has AND Meant.
-/
set_option linter.unusedVariables false
namespace Go.Proofs.YthnnpnlapjlnoaaGreatDoor.Li
open Go.Lib Go.RowKit

def hasB (s t : Row) : Bool := s.any fun b => t.contains b
theorem hasB_no {s t : Row} (h : ∀ x ∈ s, t.contains x = false) : hasB s t = false := by
  unfold hasB
  rw [List.any_eq_false]
  intro x hx
  rw [h x hx]; decide
theorem hasB_yes {s t : Row} {i : Nat} {x : UInt8} (h : s[i]? = some x) (hx : t.contains x = true) : hasB s t = true := by
  unfold hasB
  rw [List.any_eq_true]
  exact ⟨x, List.mem_of_getElem? h, hx⟩
theorem miss_all {t : Row} {x : UInt8} (h : ∀ y ∈ t, y ≠ x) : t.contains x = false := by
  rw [Bool.eq_false_iff]
  intro hc
  exact h x (by simpa using hc) rfl
theorem byte_eq (x y : UInt8) (h : x = y) : ((x.toNat : Int) == (y.toNat : Int)) = true := by rw [h]; simp
theorem byte_ne (x y : UInt8) (h : x ≠ y) : ((x.toNat : Int) == (y.toNat : Int)) = false := beq_eq_false_iff_ne.2 (fun e => h (UInt8.toNat_inj.1 (by omega)))
theorem drewN_twice (w : World) (m n : Nat) : ∃ k, (w.drewN m).drewN n = w.drewN k := ⟨m + n, World.drewN_drewN w m n⟩

set_option maxHeartbeats 4000000 in
set_option maxRecDepth 100000 in
theorem refHas_any (s t : ByteArray) (w : World) (hs : s.size ≤ 9223372036854775807) (ht : t.size ≤ 9223372036854775807) :
    Calls Tryz.prog 51 #[.string s, .string t] w fun e w' => e = .returned (.bool (hasB s.data.toList t.data.toList)) ∧ ∃ m, w' = w.drewN m := by
  have hno : (∀ x ∈ s.data.toList, t.data.toList.contains x = false) → hasB s.data.toList t.data.toList = false := hasB_no
  have hyes : ∀ (i : Nat) (x : UInt8), s.data.toList[i]? = some x → t.data.toList.contains x = true → hasB s.data.toList t.data.toList = true := fun i x => hasB_yes
  generalize hasB s.data.toList t.data.toList = R at hno hyes ⊢
  have hno' := Lib.hid hno
  have hyes' := Lib.hid hyes
  clear hno hyes
  go_enter Tryz.func51, Tryz.ntmps51
  go_wp2
  go_loopw [5] (fun s5 wr => ∃ (i m : Nat), s5 = .int .i64 (i : Int) ∧ i ≤ s.size ∧ wr = w.drewN m ∧ ∀ x ∈ s.data.toList.take i, t.data.toList.contains x = false) (fun s5 wr => s.size - (RowKit.intOf s5).toNat)
  case atStart => exact ⟨0, 0, rfl, Nat.zero_le _, rfl, fun x hx => by simp at hx⟩
  case round =>
    obtain ⟨i, m, rfl, hi, rfl, hall⟩ := hrel
    have hall' := Lib.hid hall
    clear hall
    by_cases hlt : i < s.size
    · have hg := Lib.data_getElem? s i hlt
      have hg' := Lib.hid hg
      clear hg
      go_wp2
      go_loopw [6] (fun s6 wr => ∃ (j m : Nat), s6 = .int .i64 (j : Int) ∧ j ≤ t.size ∧ wr = w.drewN m ∧ ∀ y ∈ t.data.toList.take j, y ≠ s[i]'hlt) (fun s6 wr => t.size - (RowKit.intOf s6).toNat)
      case atStart => exact ⟨0, m, rfl, Nat.zero_le _, rfl, fun x hx => by simp at hx⟩
      case round =>
        obtain ⟨j, m2, rfl, hj, rfl, hne⟩ := hrel
        have hne' := Lib.hid hne
        clear hne
        by_cases hlt2 : j < t.size
        · have hg2 := Lib.data_getElem? t j hlt2
          by_cases hx : s[i]'hlt = t[j]'hlt2
          · have hR := Lib.hid (hyes'.out i _ hg'.out (by rw [hx]; simpa using List.mem_of_getElem? hg2))
            have d1 := byte_eq _ _ hx
            clear hx hg2
            go_wp2
            go_quiet (fail)
            go_wp2
            go_ret
            exact ⟨ret_bool hR.out.symm, by first | exact ⟨_, rfl⟩ | exact drewN_twice _ _ _⟩
          · have d1 := byte_ne _ _ hx
            have hnx : ∀ y ∈ t.data.toList.take (j + 1), y ≠ s[i]'hlt := by
              obtain ⟨hl, hv⟩ := List.getElem?_eq_some_iff.1 hg2
              intro y hy
              rw [List.take_succ_eq_append_getElem hl, List.mem_append, List.mem_singleton, hv] at hy
              rcases hy with hy | rfl
              · exact hne'.out y hy
              · exact fun e => hx e.symm
            have hnx' := Lib.hid hnx
            clear hx hg2 hnx
            go_wp2
            go_quiet (fail)
            go_wp2
            first
              | exact ⟨⟨j + 1, _, by go_num, by omega, rfl, hnx'.out⟩, by simp [RowKit.intOf]; omega⟩
              | (go_roundw
                 case rel => first | exact ⟨j + 1, _, by go_num, by omega, rfl, hnx'.out⟩ | (obtain ⟨k9, hk9⟩ := drewN_twice w m2 nq; exact ⟨j + 1, k9, by go_num, by omega, hk9, hnx'.out⟩)
                 case measure => simp [RowKit.intOf]; omega)
        · have hmiss : t.data.toList.contains (s[i]'hlt) = false := miss_all (by
            have h := hne'.out
            rw [List.take_of_length_le (by rw [← Lib.size_eq]; omega)] at h
            exact h)
          have hnx : ∀ x ∈ s.data.toList.take (i + 1), t.data.toList.contains x = false := by
            obtain ⟨hl, hv⟩ := List.getElem?_eq_some_iff.1 hg'.out
            intro y hy
            rw [List.take_succ_eq_append_getElem hl, List.mem_append, List.mem_singleton, hv] at hy
            rcases hy with hy | rfl
            · exact hall'.out y hy
            · exact hmiss
          have hnx' := Lib.hid hnx
          clear hmiss hnx
          go_wp2
          go_roundw
          case rel => exact ⟨i + 1, m2, by go_num, by omega, rfl, hnx'.out⟩
          case measure => simp [RowKit.intOf]; omega
    · have hR := Lib.hid (hno'.out (by
        have h := hall'.out
        rw [List.take_of_length_le (by rw [← Lib.size_eq]; omega)] at h
        exact h))
      go_wp2
      go_ret
      exact ⟨ret_bool hR.out.symm, ⟨_, rfl⟩⟩
end Go.Proofs.YthnnpnlapjlnoaaGreatDoor.Li

/-
  WALKS OF line.writeValue, writeParam.
-/
set_option linter.unusedVariables false
namespace Go.Proofs.YthnnpnlapjlnoaaGreatDoor.Li
open Go.Lib Go.RowKit Bu

theorem asc3 : An.Asc ⟨#[44, 59, 58]⟩ := fun j b hb => by
  have : b ∈ ([44, 59, 58] : List UInt8) := List.mem_iff_getElem?.2 ⟨j, hb⟩
  simp only [List.mem_cons, List.not_mem_nil, or_false] at this
  rcases this with rfl | rfl | rfl <;> decide
theorem sgn_is (l : Row) : Lib.containsAny l [44, 59, 58] = sgn l := by
  rw [An.contains_any]
  unfold sgn
  congr 1
  funext b
  rw [Bool.eq_iff_iff]
  unfold sgB
  simp [or_assoc]
theorem v10 (x : UInt8) (h : x ≠ 10) : ((x.toNat : Int) == 10) = false := Ch.byte_all (P := fun x => x ≠ 10 → ((x.toNat : Int) == 10) = false) (by decide +kernel) x h
theorem w10 (x : UInt8) (h : x = 10) : ((x.toNat : Int) == 10) = true := by subst h; rfl
theorem v94 (x : UInt8) (h : x ≠ 94) : ((x.toNat : Int) == 94) = false := Ch.byte_all (P := fun x => x ≠ 94 → ((x.toNat : Int) == 94) = false) (by decide +kernel) x h
theorem w94 (x : UInt8) (h : x = 94) : ((x.toNat : Int) == 94) = true := by subst h; rfl
theorem v34 (x : UInt8) (h : x ≠ 34) : ((x.toNat : Int) == 34) = false := Ch.byte_all (P := fun x => x ≠ 34 → ((x.toNat : Int) == 34) = false) (by decide +kernel) x h
theorem w34 (x : UInt8) (h : x = 34) : ((x.toNat : Int) == 34) = true := by subst h; rfl
theorem esc_take (l : Row) (k : Nat) (x : UInt8) (h : l[k]? = some x) : esc (l.take (k + 1)) = esc (l.take k) ++ esc1 x := by
  obtain ⟨hl, hv⟩ := List.getElem?_eq_some_iff.1 h
  rw [List.take_succ_eq_append_getElem hl, esc_append, hv]
  simp [esc]
theorem esc_take_len (l : Row) (k : Nat) : (esc (l.take k)).length ≤ (esc l).length := by
  conv => rhs; rw [← List.take_append_drop k l, esc_append, List.length_append]
  omega

set_option maxHeartbeats 4000000 in
set_option maxRecDepth 100000 in
theorem writeValue_q (q : ByteArray) (Q : Bool) (B b : Nat) (l : Row) (v : ByteArray) (w : World) (hq : q = if Q = true then ⟨#[34]⟩ else ⟨#[]⟩) (hQ : sgn v.data.toList = Q) (h : Bd B b l w) (hlen : l.length + (wval v.data.toList).length ≤ 140737488355328) (hBw : B ≤ w.heap.size) (hs : v.size ≤ 9223372036854775807) :
    Calls Tryz.prog 99 #[.pointer (some ⟨b, 0, none⟩), .string v] w fun e w' => e = .returned (.tuple #[]) ∧ Bd B b (l ++ wval v.data.toList) w' ∧ Below B w w' ∧ KeptT w w' := by
  have hw : wval v.data.toList = q.data.toList ++ (esc v.data.toList ++ q.data.toList) := by
    rw [hq]; unfold wval; rw [hQ]
    cases Q <;> simp
  have hwl := congrArg List.length hw
  rw [List.length_append, List.length_append] at hwl
  have hqs : q.size = q.data.toList.length := Lib.size_eq q
  have hqsm : q.size ≤ 1 := by rw [hq]; cases Q <;> decide
  have cA := fun W => An.containsAny_all v ⟨#[44, 59, 58]⟩ asc3 (by decide) (by decide) W hs
  rw [show (⟨#[44, 59, 58]⟩ : ByteArray).data.toList = [44, 59, 58] from rfl, sgn_is, hQ] at cA
  obtain ⟨L1, hL1⟩ : ∃ L1, l ++ q.data.toList = L1 := ⟨_, rfl⟩
  have hl0 : L1.length = l.length + q.data.toList.length := by rw [← hL1, List.length_append]
  have hl1 : l.length + q.size ≤ 140737488355328 := by omega
  have hl2 : L1.length + (esc v.data.toList).length + q.size ≤ 140737488355328 := by omega
  have hfin : ∀ W, Bd B b (L1 ++ esc v.data.toList ++ q.data.toList) W → Bd B b (l ++ wval v.data.toList) W := fun W hW => by
    rw [hw, ← List.append_assoc, hL1, ← List.append_assoc]; exact hW
  clear hw hwl hqs hlen hQ hl0
  have key : ∀ W, Below w.heap.size w W → Calls Tryz.prog 66 #[.pointer (some ⟨b, 0, none⟩), .string q] W fun e w' => e = .returned (.tuple #[.int .i64 q.size, .nilIface]) ∧ Bd B b L1 w' ∧ Below B W w' ∧ KeptT W w' := fun W hW => by
    have := write_full B b l q W (h.kept hW) hl1 (by have := hW.size; omega)
    rwa [hL1] at this
  have key2 : ∀ W, Bd B b (L1 ++ esc v.data.toList) W → B ≤ W.heap.size → Calls Tryz.prog 66 #[.pointer (some ⟨b, 0, none⟩), .string q] W fun e w' => e = .returned (.tuple #[.int .i64 q.size, .nilIface]) ∧ Bd B b (L1 ++ esc v.data.toList ++ q.data.toList) w' ∧ Below B W w' ∧ KeptT W w' := fun W hW hB => by
    exact write_full B b _ q W hW (by rw [List.length_append]; omega) hB
  have hstep : ∀ (k : Nat) (x : UInt8) (a : Row), v.data.toList[k]? = some x → esc1 x = a → (L1 ++ esc (v.data.toList.take k)) ++ a = L1 ++ esc (v.data.toList.take (k + 1)) ∧ (L1 ++ esc (v.data.toList.take k)).length + a.length ≤ 140737488355328 := fun k x a hx ha => by
    have h1 := esc_take _ _ _ hx
    rw [ha] at h1
    have h2 := esc_take_len v.data.toList (k + 1)
    rw [h1, List.length_append] at h2
    refine ⟨by rw [h1, List.append_assoc], ?_⟩
    rw [List.length_append]; omega
  have hstep' := Lib.hid hstep
  have hfin' := Lib.hid hfin
  have key2' := Lib.hid key2
  clear hL1 hstep hfin key2
  cases Q
  all_goals
    subst hq
    simp only [Bool.false_eq_true, if_false, if_true] at *
    clear h
    go_enter Tryz.func99, Tryz.ntmps99
    go_wp2_with (go_at_call 103; refine (cA _).mono ?_; rintro e w1 ⟨rfl, hb1⟩)
    go_at_call 66
    refine (key _ hb1).mono ?_
    rintro e w2 ⟨rfl, hbd2, hb2, ht2⟩
    have hB2 : Below B w w2 := (hb1.mono hBw).trans hb2
    have hT2 : KeptT w w2 := (KeptT.of_below hb1).trans ht2
    clear hb1 hb2 ht2 key cA
    go_wp2
    go_loopw [5] (fun s5 wr => ∃ k : Nat, s5 = .int .i64 (k : Int) ∧ k ≤ v.size ∧ Bd B b (L1 ++ esc (v.data.toList.take k)) wr ∧ Below B w wr ∧ KeptT w wr) (fun s5 wr => v.size - (RowKit.intOf s5).toNat)
    case atStart => exact ⟨0, rfl, Nat.zero_le _, by simpa [esc] using hbd2, hB2, hT2⟩
    case round =>
      obtain ⟨k, rfl, hk, hbd, hbw, hkt⟩ := hrel
      have hBr : B ≤ wr.heap.size := Nat.le_trans hBw hbw.size
      have hkt' := Lib.hid hkt
      clear hkt
      by_cases hlt : k < v.size
      · have hg := Lib.data_getElem? v k hlt
        by_cases c1 : v[k]'hlt = 10
        · obtain ⟨e1, e2⟩ := hstep'.out k _ [94, 110] hg (by rw [c1]; rfl)
          have cW := write_full B b _ ⟨#[94, 110]⟩ wr hbd e2 hBr
          rw [show (⟨#[94, 110]⟩ : ByteArray).data.toList = [94, 110] from rfl, e1] at cW
          have d1 := w10 _ c1
          clear c1 hg e1 e2
          go_wp2_with (go_at_call 66; refine cW.mono ?_; rintro e w3 ⟨rfl, hbd3, hb3, ht3⟩)
          go_roundw
          case rel => exact ⟨k + 1, by go_num, by omega, hbd3, hbw.trans hb3, hkt'.out.trans ht3⟩
          case measure => simp [RowKit.intOf]; omega
        · have d1 := v10 _ c1
          by_cases c2 : v[k]'hlt = 94
          · obtain ⟨e1, e2⟩ := hstep'.out k _ [94, 94] hg (by rw [c2]; rfl)
            have cW := write_full B b _ ⟨#[94, 94]⟩ wr hbd e2 hBr
            rw [show (⟨#[94, 94]⟩ : ByteArray).data.toList = [94, 94] from rfl, e1] at cW
            have d2 := w94 _ c2
            clear c1 c2 hg e1 e2
            go_wp2_with (go_at_call 66; refine cW.mono ?_; rintro e w3 ⟨rfl, hbd3, hb3, ht3⟩)
            go_roundw
            case rel => exact ⟨k + 1, by go_num, by omega, hbd3, hbw.trans hb3, hkt'.out.trans ht3⟩
            case measure => simp [RowKit.intOf]; omega
          · have d2 := v94 _ c2
            by_cases c3 : v[k]'hlt = 34
            · obtain ⟨e1, e2⟩ := hstep'.out k _ [94, 39] hg (by rw [c3]; rfl)
              have cW := write_full B b _ ⟨#[94, 39]⟩ wr hbd e2 hBr
              rw [show (⟨#[94, 39]⟩ : ByteArray).data.toList = [94, 39] from rfl, e1] at cW
              have d3 := w34 _ c3
              clear c1 c2 c3 hg e1 e2
              go_wp2_with (go_at_call 66; refine cW.mono ?_; rintro e w3 ⟨rfl, hbd3, hb3, ht3⟩)
              go_roundw
              case rel => exact ⟨k + 1, by go_num, by omega, hbd3, hbw.trans hb3, hkt'.out.trans ht3⟩
              case measure => simp [RowKit.intOf]; omega
            · have d3 := v34 _ c3
              obtain ⟨e1, e2⟩ := hstep'.out k _ [v[k]'hlt] hg (by unfold esc1; rw [if_neg c1, if_neg c2, if_neg c3])
              have cW := byte_full B b _ (v[k]'hlt) wr hbd e2 hBr
              rw [e1] at cW
              clear c1 c2 c3 hg e1 e2
              go_wp2_with (go_at_call 67; refine cW.mono ?_; rintro e w3 ⟨rfl, hbd3, hb3, ht3⟩)
              go_roundw
              case rel => exact ⟨k + 1, by go_num, by omega, hbd3, hbw.trans hb3, hkt'.out.trans ht3⟩
              case measure => simp [RowKit.intOf]; omega
      · rw [List.take_of_length_le (by rw [← Lib.size_eq]; omega)] at hbd
        have cW := key2'.out wr hbd hBr
        go_wp2_with (go_at_call 66; refine cW.mono ?_; rintro e w3 ⟨rfl, hbd3, hb3, ht3⟩)
        go_end0
        exact ⟨rfl, hfin'.out _ hbd3, hbw.trans hb3, hkt'.out.trans ht3⟩
theorem writeValue_any (B b : Nat) (l : Row) (v : ByteArray) (w : World) (h : Bd B b l w) (hlen : l.length + (wval v.data.toList).length ≤ 140737488355328) (hBw : B ≤ w.heap.size) (hs : v.size ≤ 9223372036854775807) :
    Calls Tryz.prog 99 #[.pointer (some ⟨b, 0, none⟩), .string v] w fun e w' => e = .returned (.tuple #[]) ∧ Bd B b (l ++ wval v.data.toList) w' ∧ Below B w w' ∧ KeptT w w' :=
  writeValue_q _ _ B b l v w rfl rfl h hlen hBw hs
end Go.Proofs.YthnnpnlapjlnoaaGreatDoor.Li

/-
  THE WALK OF THE REFERENCE's Meant.
-/
set_option linter.unusedVariables false
namespace Go.Proofs.YthnnpnlapjlnoaaGreatDoor.Li
open Go.Lib Go.RowKit

theorem mean_two (x y : UInt8) (l : Row) (h : escL (x :: y :: l) = none) : mean (x :: y :: l) = x :: mean (y :: l) := mean_no h
theorem mean_end : mean [94] = [94] ++ mean [] := rfl
theorem v110 (x : UInt8) (h : x ≠ 110) : ((x.toNat : Int) == 110) = false := Ch.byte_all (P := fun x => x ≠ 110 → ((x.toNat : Int) == 110) = false) (by decide +kernel) x h
theorem w110 (x : UInt8) (h : x = 110) : ((x.toNat : Int) == 110) = true := by subst h; rfl
theorem v39 (x : UInt8) (h : x ≠ 39) : ((x.toNat : Int) == 39) = false := Ch.byte_all (P := fun x => x ≠ 39 → ((x.toNat : Int) == 39) = false) (by decide +kernel) x h
theorem w39 (x : UInt8) (h : x = 39) : ((x.toNat : Int) == 39) = true := by subst h; rfl
/-- as far as Meant has come -/
def MeanAt (M : Row) (s acc : ByteArray) (k : Nat) : Prop := M = acc.data.toList ++ mean (s.data.toList.drop k)
theorem MeanAt.len {M : Row} {s acc : ByteArray} {k : Nat} (h : MeanAt M s acc k) : acc.size ≤ M.length := by
  unfold MeanAt at h
  rw [h, List.length_append, ← Lib.size_eq]; omega
theorem MeanAt.step {M : Row} {s acc z : ByteArray} {k k' : Nat} {c : Row} (h : MeanAt M s acc k) (hm : mean (s.data.toList.drop k) = c ++ mean (s.data.toList.drop k')) (hz : z.data.toList = acc.data.toList ++ c) : MeanAt M s z k' := by
  unfold MeanAt at h ⊢
  rw [h, hm, hz, List.append_assoc]
theorem one_data (s : ByteArray) (k : Nat) (h : k < s.size) : (s.extract k (k + 1)).data.toList = [s[k]'h] := by
  rw [Lib.extract_data, show k + 1 - k = 1 by omega, drop_head s k h]; rfl

set_option maxHeartbeats 8000000 in
set_option maxRecDepth 100000 in
theorem refMeant_any (s : ByteArray) (w : World) (hs : s.size ≤ 4611686018427387904) :
    Calls Tryz.prog 83 #[.string s] w fun e w' => e = .returned (.string ⟨(mean s.data.toList).toArray⟩) ∧ w = w' := by
  have hML := mean_len s.data.toList
  rw [← Lib.size_eq] at hML
  obtain ⟨M, hM⟩ : ∃ M, mean s.data.toList = M := ⟨_, rfl⟩
  rw [hM] at hML ⊢
  have h0 : MeanAt M s ⟨#[]⟩ 0 := by unfold MeanAt; rw [← hM]; rfl
  clear hM
  go_enter Tryz.func83, Tryz.ntmps83
  go_wp2
  go_loop [3, 4] (fun s3 s4 => ∃ (k : Nat) (acc : ByteArray), s3 = .string acc ∧ s4 = .int .i64 (k : Int) ∧ k ≤ s.size ∧ MeanAt M s acc k) (fun s3 s4 => s.size - (RowKit.intOf s4).toNat)
  case atStart => exact ⟨0, _, rfl, rfl, Nat.zero_le _, h0⟩
  case round =>
    obtain ⟨k, acc, rfl, rfl, hk, hat⟩ := hrel
    have hal := hat.len
    by_cases hlt : k < s.size
    · obtain ⟨A, hA⟩ : ∃ A, k + 1 = A := ⟨_, rfl⟩
      have hdh := drop_head s k hlt
      rw [hA] at hdh
      have hod := one_data s k hlt
      rw [hA] at hod
      have hbare : mean (s.data.toList.drop k) = [s[k]'hlt] ++ mean (s.data.toList.drop A) → ∀ z : ByteArray, acc ++ s.extract k A = z → MeanAt M s z A := fun h z hz => hat.step h (by rw [← hz, ByteArray.data_append, Array.toList_append, hod])
      obtain ⟨b1, hb1⟩ : ∃ b1, s.extract k A = b1 := ⟨_, rfl⟩
      rw [hb1] at hbare hod
      have hb1s : b1.size = 1 := by rw [Lib.size_eq, hod]; rfl
      obtain ⟨z1, hz1⟩ : ∃ z, acc ++ b1 = z := ⟨_, rfl⟩
      have hn1 : ¬ 9223372036854775807 < acc.size + b1.size := by omega
      have hn2 : ¬ 9223372036854775807 < acc.size + 1 := by omega
      have hAI : (k : Int) + 1 = (A : Int) := by omega
      have j1 : (k : Int) ≤ (A : Int) := by omega
      have j2 : (A : Int) ≤ (s.size : Int) := by omega
      have j3 : (0 : Int) ≤ (k : Int) := by omega
      have j4 : ¬ (A : Int) < (k : Int) := by omega
      have j5 : ¬ (s.size : Int) < (A : Int) := by omega
      have j6 : A ≤ s.size := by omega
      have j7 : k < A := by omega
      have hbare' := Lib.hid hbare
      have hdh' := Lib.hid hdh
      clear hbare hdh hod hb1s
      have hA' := Lib.hid hA
      clear hA
      by_cases c1 : s[k]'hlt = 94
      · have d1 := w94 _ c1
        by_cases hlt2 : A < s.size
        · have hdh2 := drop_head s A hlt2
          have htwo : s.data.toList.drop k = 94 :: s[A]'hlt2 :: s.data.toList.drop (A + 1) := by rw [hdh'.out, hdh2, c1]
          have hesc : ∀ (c : UInt8) (z : ByteArray), escL (s.data.toList.drop k) = some c → z.data.toList = acc.data.toList ++ [c] → MeanAt M s z (A + 1) := fun c z h hz => hat.step (by
            have := (mean_yes h).1
            rw [this, List.drop_drop, show k + 2 = A + 1 by have := hA'.out; omega]; rfl) hz
          have hnone : escL (s.data.toList.drop k) = none → MeanAt M s z1 A := fun h => hbare'.out (by
            rw [hdh'.out] at h ⊢
            rw [mean_no h]; rfl) _ hz1
          rw [htwo] at hesc hnone
          have hesc' := Lib.hid hesc
          have hnone' := Lib.hid hnone
          clear hdh2 htwo hesc hnone hat c1
          by_cases e1 : s[A]'hlt2 = 110
          · have f1 := w110 _ e1
            obtain ⟨z, hz⟩ : ∃ z, acc ++ (⟨#[10]⟩ : ByteArray) = z := ⟨_, rfl⟩
            have hr := Lib.hid (hesc'.out 10 z (by rw [e1]; rfl) (by rw [← hz, ByteArray.data_append, Array.toList_append]))
            clear e1 hz1
            go_wp2
            go_round
            case rel => exact ⟨A + 1, z, rfl, by go_num, by omega, hr.out⟩
            case measure => simp [RowKit.intOf]; omega
          · have f1 := v110 _ e1
            by_cases e2 : s[A]'hlt2 = 94
            · have f2 := w94 _ e2
              obtain ⟨z, hz⟩ : ∃ z, acc ++ (⟨#[94]⟩ : ByteArray) = z := ⟨_, rfl⟩
              have hr := Lib.hid (hesc'.out 94 z (by rw [e2]; rfl) (by rw [← hz, ByteArray.data_append, Array.toList_append]))
              clear e1 e2 hz1
              go_wp2
              go_round
              case rel => exact ⟨A + 1, z, rfl, by go_num, by omega, hr.out⟩
              case measure => simp [RowKit.intOf]; omega
            · have f2 := v94 _ e2
              by_cases e3 : s[A]'hlt2 = 39
              · have f3 := w39 _ e3
                obtain ⟨z, hz⟩ : ∃ z, acc ++ (⟨#[34]⟩ : ByteArray) = z := ⟨_, rfl⟩
                have hr := Lib.hid (hesc'.out 34 z (by rw [e3]; rfl) (by rw [← hz, ByteArray.data_append, Array.toList_append]))
                clear e1 e2 e3 hz1
                go_wp2
                go_round
                case rel => exact ⟨A + 1, z, rfl, by go_num, by omega, hr.out⟩
                case measure => simp [RowKit.intOf]; omega
              · have f3 := v39 _ e3
                have hr := Lib.hid (hnone'.out (by
                  unfold escL
                  have g1 : ¬ Lib.hasPrefix (94 :: s[A]'hlt2 :: s.data.toList.drop (A + 1)) [94, 110] = true := fun h => by
                    obtain ⟨r, hr⟩ := (pre_two _ _ _).1 h
                    simp at hr; exact e1 hr.1
                  have g2 : ¬ Lib.hasPrefix (94 :: s[A]'hlt2 :: s.data.toList.drop (A + 1)) [94, 94] = true := fun h => by
                    obtain ⟨r, hr⟩ := (pre_two _ _ _).1 h
                    simp at hr; exact e2 hr.1
                  have g3 : ¬ Lib.hasPrefix (94 :: s[A]'hlt2 :: s.data.toList.drop (A + 1)) [94, 39] = true := fun h => by
                    obtain ⟨r, hr⟩ := (pre_two _ _ _).1 h
                    simp at hr; exact e3 hr.1
                  rw [if_neg g1, if_neg g2, if_neg g3]))
                clear e1 e2 e3
                go_wp2
                go_round
                case rel => exact ⟨A, z1, rfl, rfl, by omega, hr.out⟩
                case measure => simp [RowKit.intOf]; omega
        · have hr := Lib.hid (hbare'.out (by
            have e : s.data.toList.drop A = [] := List.drop_eq_nil_of_le (by rw [← Lib.size_eq]; omega)
            rw [hdh'.out, e, c1]; rfl) _ hz1)
          clear hat c1
          go_wp2
          go_round
          case rel => exact ⟨A, z1, rfl, rfl, by omega, hr.out⟩
          case measure => simp [RowKit.intOf]; omega
      · have d1 := v94 _ c1
        have hr := Lib.hid (hbare'.out (by rw [hdh'.out, mean_bare _ _ c1]; rfl) _ hz1)
        clear hat c1
        go_wp2
        go_round
        case rel => exact ⟨A, z1, rfl, rfl, by omega, hr.out⟩
        case measure => simp [RowKit.intOf]; omega
    · have hf : acc = ⟨M.toArray⟩ := by
        unfold MeanAt at hat
        rw [List.drop_eq_nil_of_le (by rw [← Lib.size_eq]; omega)] at hat
        rw [hat, show mean [] = [] from rfl, List.append_nil, Lib.mk_data]
      have hf' := Lib.hid hf
      clear hf hat
      go_wp2
      go_ret
      exact ⟨by rw [← hf'.out]; rfl, rfl⟩
end Go.Proofs.YthnnpnlapjlnoaaGreatDoor.Li

/-
  WALKS OF THE REFERENCE's (*Scan).name AND sign.
-/
set_option linter.unusedVariables false
namespace Go.Proofs.YthnnpnlapjlnoaaGreatDoor.Li
open Go.Lib Go.RowKit

/-- where a line is read, and its error: the block b -/
def Sc (b : Nat) (s : ByteArray) (k x : Nat) (w : World) : Prop := w.heap[b]? = some (.cells #[.string s, .int .i64 (k : Int), .int .i64 (x : Int)] 84 (0, 0))
theorem Sc.cells {b k x : Nat} {s : ByteArray} {w : World} (h : Sc b s k x w) : w.cell? ⟨b, 0, none⟩ = some (.string s) ∧ w.cell? ⟨b, 1, none⟩ = some (.int .i64 (k : Int)) ∧ w.cell? ⟨b, 2, none⟩ = some (.int .i64 (x : Int)) ∧
    w.frozen? ⟨b, 1, none⟩ = false ∧ w.frozen? ⟨b, 2, none⟩ = false := by
  unfold Sc at h
  refine ⟨by rw [Lib.cell_of_heap h]; rfl, by rw [Lib.cell_of_heap h]; rfl, by rw [Lib.cell_of_heap h]; rfl, Lib.frozen_of_heap h 1, Lib.frozen_of_heap h 2⟩
theorem Sc.at_ {b k x k' : Nat} {s : ByteArray} {w : World} (h : Sc b s k x w) : Sc b s k' x (w.setCell ⟨b, 1, none⟩ (.int .i64 (k' : Int))) := by
  unfold Sc at h ⊢
  simp [World.setCell, Array.getElem?_modify, h]
theorem Sc.bad_ {b k x x' : Nat} {s : ByteArray} {w : World} (h : Sc b s k x w) : Sc b s k x' (w.setCell ⟨b, 2, none⟩ (.int .i64 (x' : Int))) := by
  unfold Sc at h ⊢
  simp [World.setCell, Array.getElem?_modify, h]
theorem Sc.drewN {b k x : Nat} {s : ByteArray} {w : World} (n : Nat) (h : Sc b s k x w) : Sc b s k x (w.drewN n) := h
theorem gr_drewN {a w : World} {row : Option Nat} (h : a.grownBy w row) (n : Nat) : a.grownBy (w.drewN n) row := ⟨h.os, h.tape, h.output, h.size, h.block⟩
theorem gr_set {a w : World} {b o : Nat} (h : a.grownBy w (some b)) (u : Value) : a.grownBy (w.setCell ⟨b, o, none⟩ u) (some b) :=
  ⟨h.os, h.tape, h.output, by simpa [World.setCell] using h.size, fun i hi hne => (Below.heap_setCell w ⟨b, o, none⟩ u i (fun e => hne (by rw [show i = b from e]))).trans (h.block i hi hne)⟩
theorem gr_trans {a w w' : World} {b : Nat} (h : a.grownBy w (some b)) (k : w.grownBy w' (some b)) : a.grownBy w' (some b) :=
  ⟨k.os.trans h.os, k.tape.trans h.tape, k.output.trans h.output, Nat.le_trans h.size k.size, fun i hi hne => (k.block i (Nat.lt_of_lt_of_le hi h.size) hne).trans (h.block i hi hne)⟩
def atOf (b : Nat) (w : World) : Nat := (RowKit.intOf ((w.cell? ⟨b, 1, none⟩).getD undef)).toNat
theorem atOf_is {b k x : Nat} {s : ByteArray} {w : World} (h : Sc b s k x w) : atOf b w = k := by
  unfold atOf
  rw [h.cells.2.1]
  simp [RowKit.intOf]

theorem nlen_drop (s : ByteArray) (k A : Nat) (hk : k ≤ A) (hA : A ≤ s.size) (h1 : ∀ i, k ≤ i → i < A → inB (s.data.toList.getD i 0) = true) (h2 : A < s.size → inB (s.data.toList.getD A 0) = false) : nlen (s.data.toList.drop k) = A - k := by
  refine nlen_at _ _ (by rw [List.length_drop, ← Lib.size_eq]; omega) (fun j hj => ?_) (fun hlt => ?_)
  · rw [Ch.getD_drop]; exact h1 _ (by omega) (by omega)
  · rw [Ch.getD_drop, show k + (A - k) = A by omega]
    exact h2 (by rw [List.length_drop, ← Lib.size_eq] at hlt; omega)
def badAt (x n : Nat) : Nat := if x = 0 ∧ (n < 1 ∨ 64 < n) then 30 else x

set_option maxHeartbeats 8000000 in
set_option maxRecDepth 100000 in
theorem scName (b : Nat) (s : ByteArray) (k x : Nat) (w : World) (h : Sc b s k x w) (hk : k ≤ s.size) (hs : s.size ≤ 4611686018427387904) (hx : x ≤ 1000) :
    Calls Tryz.prog 52 #[.pointer (some ⟨b, 0, none⟩)] w fun e w' => e = .returned (.string (s.extract k (k + nlen (s.data.toList.drop k)))) ∧ Sc b s (k + nlen (s.data.toList.drop k)) (badAt x (nlen (s.data.toList.drop k))) w' ∧ w.grownBy w' (some b) := by
  have hN : ∀ A, k ≤ A → A ≤ s.size → (∀ i, k ≤ i → i < A → inB (s.data.toList.getD i 0) = true) → (A < s.size → inB (s.data.toList.getD A 0) = false) → nlen (s.data.toList.drop k) = A - k := fun A h1 h2 h3 h4 => nlen_drop s k A h1 h2 h3 h4
  generalize nlen (s.data.toList.drop k) = n at hN ⊢
  have hN' := Lib.hid hN
  obtain ⟨c0, c1, c2, f1, f2⟩ := h.cells
  have h' := Lib.hid h
  clear hN h
  go_enter Tryz.func52, Tryz.ntmps52
  go_wp2
  clear c0 c1 c2 f1 f2
  go_loopw [] (fun wr => ∃ A : Nat, k ≤ A ∧ A ≤ s.size ∧ Hid (Sc b s A x wr) ∧ w.grownBy wr (some b) ∧ ∀ i, k ≤ i → i < A → inB (s.data.toList.getD i 0) = true) (fun wr => s.size - atOf b wr)
  case atStart => exact ⟨k, Nat.le_refl _, hk, h', World.grownBy.refl w _, fun i h1 h2 => by omega⟩
  case round =>
    obtain ⟨A, hkA, hA, hsc, hg, hall⟩ := hrel
    have hall' := Lib.hid hall
    have hat := Lib.hid (atOf_is hsc.out)
    obtain ⟨c0, c1, c2, f1, f2⟩ := hsc.out.cells
    clear hall
    have hcase : (A < s.size ∧ inB (s.data.toList.getD A 0) = true) ∨ (A < s.size → inB (s.data.toList.getD A 0) = false) := by
      by_cases h1 : A < s.size
      · cases h2 : inB (s.data.toList.getD A 0)
        · exact .inr fun _ => rfl
        · exact .inl ⟨h1, rfl⟩
      · exact .inr fun h => absurd h h1
    rcases hcase with ⟨hlt, hin⟩ | hstop
    · have hnext : ∀ i, k ≤ i → i < A + 1 → inB (s.data.toList.getD i 0) = true := fun i h1 h2 => by
        rcases Nat.lt_succ_iff_lt_or_eq.1 h2 with h | h
        · exact hall'.out i h1 h
        · rw [h]; exact hin
      have hnext' := Lib.hid hnext
      have cI : ∀ W, Calls Tryz.prog 82 #[.int .u8 ((s[A]'hlt).toNat : Int)] W fun e w' => e = .returned (.bool true) ∧ w' = W := fun W => by
        have := refIn_any (s[A]'hlt) W
        rw [← data_at s A hlt, hin, data_at s A hlt] at this
        exact this.mono fun e w' ⟨h1, h2⟩ => ⟨h1, h2.symm⟩
      clear hin hnext
      go_wp2
      go_quiet ((go_at_call 82; exact Calls.quiet_of_same (cI _)))
      go_wp2
      have hs2 : ∀ q, Sc b s (A + 1) x ((wr.drewN q).setCell ⟨b, 1, none⟩ (.int .i64 ((A + 1 : Nat) : Int))) := fun q => (hsc.out.drewN q).at_
      go_roundw
      case rel => exact ⟨A + 1, by omega, by omega, Lib.hid (hs2 _), gr_set (gr_drewN hg _) _, hnext'.out⟩
      case measure =>
        rw [hat.out]
        show s.size - atOf b ((wr.drewN _).setCell ⟨b, 1, none⟩ (.int .i64 ((A + 1 : Nat) : Int))) < s.size - A
        rw [atOf_is (hs2 _)]
        omega
    · have hn : n = A - k := hN'.out A hkA hA hall'.out hstop
      have hkn : k + n = A := by omega
      have hnI : (A : Int) - (k : Int) = (n : Int) := by omega
      have j1 : (k : Int) ≤ (A : Int) := by omega
      have j2 : (A : Int) ≤ (s.size : Int) := by omega
      have j3 : (0 : Int) ≤ (k : Int) := by omega
      have j4 : ¬ (A : Int) < (k : Int) := by omega
      have j5 : ¬ (s.size : Int) < (A : Int) := by omega
      have hfin : ∀ W y, Sc b s A y W → w.grownBy W (some b) → badAt x n = y → (Ending.returned (.string (s.extract k A)) = Ending.returned (.string (s.extract k (k + n))) ∧ Sc b s (k + n) (badAt x n) W ∧ w.grownBy W (some b)) := fun W y h1 h2 h3 => ⟨by rw [hkn], by rw [h3, hkn]; exact h1, h2⟩
      have hfin' := Lib.hid hfin
      have hstop' := Lib.hid hstop
      clear hn hkn hstop hfin
      -- the two ways out of the loop, and the error
      have hout : (A < s.size ∧ inB (s.data.toList.getD A 0) = false) ∨ ¬ A < s.size := by
        by_cases h : A < s.size
        · exact .inl ⟨h, hstop'.out h⟩
        · exact .inr h
      have hbad : (x = 0 ∧ n < 1 ∧ badAt x n = 30) ∨ (x = 0 ∧ ¬ n < 1 ∧ 64 < n ∧ badAt x n = 30) ∨ (x = 0 ∧ ¬ n < 1 ∧ ¬ 64 < n ∧ badAt x n = 0) ∨ (x ≠ 0 ∧ badAt x n = x) := by
        unfold badAt
        by_cases h0 : x = 0
        · by_cases h1 : n < 1
          · exact .inl ⟨h0, h1, if_pos ⟨h0, .inl h1⟩⟩
          · by_cases h2 : 64 < n
            · exact .inr (.inl ⟨h0, h1, h2, if_pos ⟨h0, .inr h2⟩⟩)
            · exact .inr (.inr (.inl ⟨h0, h1, h2, by rw [if_neg (by omega)]; exact h0⟩))
        · exact .inr (.inr (.inr ⟨h0, if_neg (fun h => h0 h.1)⟩))
      rcases hout with ⟨hlt, hin⟩ | hge
      · have cI : ∀ W, Calls Tryz.prog 82 #[.int .u8 ((s[A]'hlt).toNat : Int)] W fun e w' => e = .returned (.bool false) ∧ w' = W := fun W => by
          have := refIn_any (s[A]'hlt) W
          rw [← data_at s A hlt, hin, data_at s A hlt] at this
          exact this.mono fun e w' ⟨h1, h2⟩ => ⟨h1, h2.symm⟩
        clear hin
        rcases hbad with ⟨h0, h1, hb⟩ | ⟨h0, h1, h2, hb⟩ | ⟨h0, h1, h2, hb⟩ | ⟨h0, hb⟩
        · subst h0
          have hb' := Lib.hid hb
          clear hb
          go_wp2
          go_quiet ((go_at_call 82; exact Calls.quiet_of_same (cI _)))
          go_wp2
          go_quiet (fail)
          go_wp2
          go_ret
          exact hfin'.out _ 30 ((hsc.out.drewN _).bad_) (gr_drewN (gr_set (gr_drewN hg _) _) _) hb'.out
        · subst h0
          have hb' := Lib.hid hb
          clear hb
          go_wp2
          go_quiet ((go_at_call 82; exact Calls.quiet_of_same (cI _)))
          go_wp2
          go_quiet (fail)
          go_wp2
          go_ret
          exact hfin'.out _ 30 ((hsc.out.drewN _).bad_) (gr_drewN (gr_set (gr_drewN hg _) _) _) hb'.out
        · subst h0
          have hb' := Lib.hid hb
          clear hb
          go_wp2
          go_quiet ((go_at_call 82; exact Calls.quiet_of_same (cI _)))
          go_wp2
          go_quiet (fail)
          go_wp2
          go_ret
          exact hfin'.out _ 0 hsc.out (gr_drewN (gr_drewN hg _) _) hb'.out
        · have dx : ((x : Int) == 0) = false := beq_eq_false_iff_ne.2 (by omega)
          have hb' := Lib.hid hb
          clear hb h0
          go_wp2
          go_quiet ((go_at_call 82; exact Calls.quiet_of_same (cI _)))
          go_wp2
          go_quiet (fail)
          go_wp2
          go_ret
          exact hfin'.out _ x hsc.out (gr_drewN (gr_drewN hg _) _) hb'.out
      · have hge' : s.size ≤ A := by omega
        have dl : decide ((A : Int) < (s.size : Int)) = false := decide_eq_false (by omega)
        rcases hbad with ⟨h0, h1, hb⟩ | ⟨h0, h1, h2, hb⟩ | ⟨h0, h1, h2, hb⟩ | ⟨h0, hb⟩
        · subst h0
          have hb' := Lib.hid hb
          clear hb
          go_wp2
          go_quiet (fail)
          go_wp2
          go_quiet (fail)
          go_wp2
          go_ret
          exact hfin'.out _ 30 ((hsc.out.drewN _).bad_) (gr_drewN (gr_set (gr_drewN hg _) _) _) hb'.out
        · subst h0
          have hb' := Lib.hid hb
          clear hb
          go_wp2
          go_quiet (fail)
          go_wp2
          go_quiet (fail)
          go_wp2
          go_ret
          exact hfin'.out _ 30 ((hsc.out.drewN _).bad_) (gr_drewN (gr_set (gr_drewN hg _) _) _) hb'.out
        · subst h0
          have hb' := Lib.hid hb
          clear hb
          go_wp2
          go_quiet (fail)
          go_wp2
          go_quiet (fail)
          go_wp2
          go_ret
          exact hfin'.out _ 0 hsc.out (gr_drewN (gr_drewN hg _) _) hb'.out
        · have dx : ((x : Int) == 0) = false := beq_eq_false_iff_ne.2 (by omega)
          have hb' := Lib.hid hb
          clear hb h0
          go_wp2
          go_quiet (fail)
          go_wp2
          go_quiet (fail)
          go_wp2
          go_ret
          exact hfin'.out _ x hsc.out (gr_drewN (gr_drewN hg _) _) hb'.out
end Go.Proofs.YthnnpnlapjlnoaaGreatDoor.Li

/-
  THE WALK OF THE REFERENCE's (*Scan).sign.
-/
set_option linter.unusedVariables false
namespace Go.Proofs.YthnnpnlapjlnoaaGreatDoor.Li
open Go.Lib Go.RowKit

def bad31 (x : Nat) : Nat := if x = 0 then 31 else x
/-- what sign answers, and what becomes of the block -/
def SignP (b : Nat) (s t : ByteArray) (k x : Nat) (e : Ending) (w' : World) : Prop :=
  (∃ c : UInt8, s.data.toList[k]? = some c ∧ t.data.toList.contains c = true ∧ e = .returned (.int .u8 (c.toNat : Int)) ∧ Sc b s (k + 1) x w') ∨
  ((∀ c : UInt8, s.data.toList[k]? = some c → t.data.toList.contains c = false) ∧ e = .returned (.int .u8 0) ∧ Sc b s k (bad31 x) w')
theorem quiet_add {P : Program} {f : FuncId} {args : Array Value} {w : World} {n : Nat} {v : Value}
    (h : Calls P f args (w.drewN n) fun e w' => e = .returned v ∧ ∃ m, w' = (w.drewN n).drewN m) :
    Calls P f args (w.drewN n) fun e w'' => e = .returned v ∧ ∃ m, w'' = w.drewN m :=
  h.mono fun _ _ ⟨he, m, hm⟩ => ⟨he, n + m, by rw [hm, World.drewN_drewN]⟩
theorem hasB_one (c : UInt8) (t : Row) : hasB [c] t = t.contains c := by simp [hasB]

set_option maxHeartbeats 8000000 in
set_option maxRecDepth 100000 in
theorem scSign (b : Nat) (s t : ByteArray) (k x : Nat) (w : World) (h : Sc b s k x w) (hk : k ≤ s.size) (hs : s.size ≤ 4611686018427387904) (ht : t.size ≤ 100) :
    Calls Tryz.prog 53 #[.pointer (some ⟨b, 0, none⟩), .string t] w fun e w' => SignP b s t k x e w' ∧ w.grownBy w' (some b) := by
  obtain ⟨c0, c1, c2, f1, f2⟩ := h.cells
  have h' := Lib.hid h
  have hg := World.grownBy.refl w (some b)
  clear h
  have hbad : (x = 0 ∧ bad31 x = 31) ∨ (x ≠ 0 ∧ bad31 x = x) := by
    unfold bad31
    by_cases h0 : x = 0
    · exact .inl ⟨h0, if_pos h0⟩
    · exact .inr ⟨h0, if_neg h0⟩
  have hno : ∀ W y, (∀ c : UInt8, s.data.toList[k]? = some c → t.data.toList.contains c = false) → Sc b s k y W → bad31 x = y → SignP b s t k x (.returned (.int .u8 0)) W := fun W y h1 h2 h3 => .inr ⟨h1, rfl, by rw [h3]; exact h2⟩
  have hno' := Lib.hid hno
  clear hno
  by_cases hlt : k < s.size
  · have hg1 := Lib.data_getElem? s k hlt
    obtain ⟨A, hA⟩ : ∃ A, k + 1 = A := ⟨_, rfl⟩
    have hod := one_data s k hlt
    rw [hA] at hod
    obtain ⟨b1, hb1⟩ : ∃ b1, s.extract k A = b1 := ⟨_, rfl⟩
    rw [hb1] at hod
    have hAI : (k : Int) + 1 = (A : Int) := by omega
    have j1 : (k : Int) ≤ (A : Int) := by omega
    have j2 : (A : Int) ≤ (s.size : Int) := by omega
    have j3 : (0 : Int) ≤ (k : Int) := by omega
    have j4 : ¬ (A : Int) < (k : Int) := by omega
    have j5 : ¬ (s.size : Int) < (A : Int) := by omega
    have j6 : A ≤ s.size := by omega
    have j7 : k < A := by omega
    have dl : decide (s.size ≤ k) = false := decide_eq_false (by omega)
    have hAb : A ≤ 4611686018427387905 := by omega
    have hwA : IntKind.i64.wrap (A : Int) = (A : Int) := Go.IntWalk.i64_in _ ⟨by omega, by omega⟩
    have hb1s : b1.size ≤ 1 := by rw [Lib.size_eq, hod]; exact Nat.le_refl _
    have cH : ∀ W v, t.data.toList.contains (s[k]'hlt) = v → Calls Tryz.prog 51 #[.string b1, .string t] W fun e w' => e = .returned (.bool v) ∧ ∃ m, w' = W.drewN m := fun W v hv => by
      have := refHas_any b1 t W (by omega) (by omega)
      rw [hod, hasB_one, hv] at this
      exact this
    have hA' := Lib.hid hA
    have hg1' := Lib.hid hg1
    cases hc : t.data.toList.contains (s[k]'hlt)
    · have hall : ∀ c : UInt8, s.data.toList[k]? = some c → t.data.toList.contains c = false := fun c hx => by
        rw [hg1'.out] at hx
        rw [← Option.some.inj hx]; exact hc
      have cH1 := fun W => cH W false hc
      have hall' := Lib.hid hall
      clear hA hg1 hod hb1s hc hall cH
      rcases hbad with ⟨h0, hb⟩ | ⟨h0, hb⟩
      · subst h0
        have hb' := Lib.hid hb
        clear hb
        go_enter Tryz.func53, Tryz.ntmps53
        go_wp2
        go_quiet ((go_at_call 51; exact quiet_add (cH1 _)))
        go_wp2
        go_ret
        exact ⟨hno'.out _ 31 hall'.out ((h'.out.drewN _).bad_) hb'.out, gr_set (gr_drewN hg _) _⟩
      · have dx : ((x : Int) == 0) = false := beq_eq_false_iff_ne.2 (by omega)
        have hb' := Lib.hid hb
        clear hb h0
        go_enter Tryz.func53, Tryz.ntmps53
        go_wp2
        go_quiet ((go_at_call 51; exact quiet_add (cH1 _)))
        go_wp2
        go_ret
        exact ⟨hno'.out _ x hall'.out h'.out hb'.out, gr_drewN hg _⟩
    · have cH1 := fun W => cH W true hc
      have hyes : ∀ W, Sc b s A x W → SignP b s t k x (.returned (.int .u8 ((s[k]'hlt).toNat : Int))) W := fun W hW => .inl ⟨_, hg1'.out, hc, rfl, by rw [hA'.out]; exact hW⟩
      have hyes' := Lib.hid hyes
      have hset : ∀ q, Sc b s A x ((w.drewN q).setCell ⟨b, 1, none⟩ (.int .i64 (A : Int))) := fun q => (h'.out.drewN q).at_
      have hset' := Lib.hid hset
      have hAm : (A : Int) - 1 = (k : Int) := by omega
      clear hA hg1 hod hb1s hc cH hyes hset hbad
      go_enter Tryz.func53, Tryz.ntmps53
      go_wp2
      go_quiet ((go_at_call 51; exact quiet_add (cH1 _)))
      go_wp2
      go_quiet (fail)
      go_wp2
      go_ret
      exact ⟨hyes'.out _ (hset'.out _), gr_drewN (gr_set (gr_drewN hg _) _) _⟩
  · have hall : ∀ c : UInt8, s.data.toList[k]? = some c → t.data.toList.contains c = false := fun c hx => by
      have := (List.getElem?_eq_some_iff.1 hx).1
      rw [← Lib.size_eq] at this
      omega
    have dl : decide ((s.size : Int) ≤ (k : Int)) = true := decide_eq_true (by omega)
    have hall' := Lib.hid hall
    clear hall
    rcases hbad with ⟨h0, hb⟩ | ⟨h0, hb⟩
    · subst h0
      have hb' := Lib.hid hb
      clear hb
      go_enter Tryz.func53, Tryz.ntmps53
      go_wp2
      go_quiet (fail)
      go_wp2
      go_ret
      exact ⟨hno'.out _ 31 hall'.out ((h'.out.drewN _).bad_) hb'.out, gr_set (gr_drewN hg _) _⟩
    · have dx : ((x : Int) == 0) = false := beq_eq_false_iff_ne.2 (by omega)
      have hb' := Lib.hid hb
      clear hb h0
      go_enter Tryz.func53, Tryz.ntmps53
      go_wp2
      go_quiet (fail)
      go_wp2
      go_ret
      exact ⟨hno'.out _ x hall'.out h'.out hb'.out, gr_drewN hg _⟩
end Go.Proofs.YthnnpnlapjlnoaaGreatDoor.Li
