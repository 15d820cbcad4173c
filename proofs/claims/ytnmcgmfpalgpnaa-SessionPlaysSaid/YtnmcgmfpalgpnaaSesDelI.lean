/-
  slices.DeleteFunc AT ROWS WHOSE RESULT IS OF TYPE int.
-/
import Derived.Test.YtnmcgmfpalgpnaaSesMinI
import Derived.OwnWalk
import Derived.Maps.AppendAt
import Derived.Laws.IdiomCopy
import Derived.Test.YtnmcgmfpalgpnaaSesDelS
set_option linter.unusedVariables false
namespace Go.Proofs.Ytnmcgmfpalgpnaa.Se
open Go.Lib Go.RowKit

theorem zeroRI (w : World) : (zeroValue 59).run Try.prog w = .ok (.agg #[.int .i64 0, .int .i64 0, .int .i64 0, .int .i64 0]) w := by kernel_rfl
/-- 'clear(s[i:])' of an own row, and the row's first i elements as 's[:i]' -/
theorem clear_ownI {g n cap i : Nat} {xs : List Value} {w : World} (h : w.ownsRow 0 59 4 (.slice (some ⟨g, 0, none⟩) n cap) n xs) (hi : i < n) (ty : TypeId) (c : Nat) :
    ∃ w', (Builtin.clear_ #[48] ty #[.slice (some ⟨g, i * 4, none⟩) (n - i) c]).run Try.prog w = .ok (.tuple #[]) w' ∧ w'.ownsRow 0 59 4 (.slice (some ⟨g, 0, none⟩) i cap) i (xs.take (i * 4)) ∧ w.grownBy w' (some g) := by
  have hzr := zeroRI
  have hz : (Builtin.zeroCells (Value.agg #[.int .i64 0, .int .i64 0, .int .i64 0, .int .i64 0]).cells (n - i)).size = (n - i) * 4 := by rw [size_zeroCells]; rfl
  have hxl := h.1
  have hst := run_storeCells_cells (P := Try.prog) g (i * 4) (Builtin.zeroCells (Value.agg #[.int .i64 0, .int .i64 0, .int .i64 0, .int .i64 0]).cells (n - i)).toList 0 w
    (fun j hj => by
      rw [Array.length_toList, hz] at hj
      rw [Nat.add_zero, h.cellAt _ (by omega), List.getElem?_eq_getElem (by omega)]; rfl)
    (fun j _ => h.frozenAt _)
    (fun v hv => by
      obtain ⟨j, hj, rfl⟩ := List.getElem_of_mem hv
      simp only [Builtin.zeroCells, Array.getElem_toList, Array.getElem_map, Array.getElem_range]
      have : j % 4 < 4 := Nat.mod_lt _ (by decide)
      rcases (by omega : j % 4 = 0 ∨ j % 4 = 1 ∨ j % 4 = 2 ∨ j % 4 = 3) with e | e | e | e <;> simp [Value.cells, e, Value.oneCell'])
  rw [Nat.add_zero] at hst
  obtain ⟨⟨ys, h1, h2⟩, h3⟩ := own_setCells (Builtin.zeroCells (Value.agg #[.int .i64 0, .int .i64 0, .int .i64 0, .int .i64 0]).cells (n - i)).toList (i * 4) w xs h
  refine ⟨_, ?_, ?_, h3⟩
  · obtain ⟨m, hm⟩ : ∃ m, n - i = m + 1 := ⟨n - i - 1, by omega⟩
    rw [hm] at hst ⊢
    simp [Builtin.clear_, run_underlying Try.underlying48, hzr, hst]
  · rw [← h2]
    rcases h1.2 with ⟨h', _⟩ | ⟨g', cap', cur, h', hb, hg, hnc, hcm, hcs, htake⟩
    · simp at h'
    · simp only [Value.slice.injEq, Option.some.injEq, Addr.mk.injEq, and_true, true_and] at h'
      obtain ⟨rfl, rfl⟩ := h'
      refine ⟨by rw [List.length_take, h1.1]; omega, .inr ⟨g, cap, cur, rfl, hb, hg, by omega, hcm, hcs, ?_⟩⟩
      rw [← htake, List.take_take, Nat.min_eq_left (by omega)]
theorem wp_clearI {g n cap i : Nat} {xs : List Value} {w : World} {ops : Array Oper} {rest : List Oper} {o : Oper} {a : Act} {Q : Exit → Act → World → Prop} (hgd : o.guard = none) (x : Operand)
    (ho : o.op = Op.call { callee := Callee.builtin Builtin.clear, args := #[x], argTypes := #[48] }) (h : w.ownsRow 0 59 4 (.slice (some ⟨g, 0, none⟩) n cap) n xs) (hi : i < n) (c : Nat) (hx : a.eval x = .slice (some ⟨g, i * 4, none⟩) (n - i) c)
    (hK : ∀ w', w'.ownsRow 0 59 4 (.slice (some ⟨g, 0, none⟩) i cap) i (xs.take (i * 4)) → w.grownBy w' (some g) → wpList Try.prog ops Q rest (a.put o.dst (.tuple #[])) w') : wpList Try.prog ops Q (o :: rest) a w := by
  refine wpList_plain hgd fun K' hK' => ?_
  obtain ⟨w', hrun, r1, r2⟩ := clear_ownI h hi o.type c
  unfold Oper.wp
  simp [execOp, ho, resolve, invoke, builtin, hx, hrun, Result.andThen]
  exact hK' _ _ (hK w' r1 r2)
def PredI (g : Nat) (lb : Array Value) (q : Ro Int → Bool) (w : World) (F : List Nat) : Prop :=
  ∀ (W : World) (r : Ro Int), Kp F w W → Calls Try.prog g (#[.agg #[.int .i64 r.id, .int .i64 r.last, .int .i64 r.used, .int .i64 r.x]] ++ lb) W fun e w' => e = .returned (.bool (q r)) ∧ Below W.heap.size W w'

set_option maxHeartbeats 8000000 in
set_option maxRecDepth 100000 in
theorem deleteFuncI (g : Nat) (lb : Array Value) (q : Ro Int → Bool) (ns : Tb Int) (gb cap n : Nat) (w : World) (eg : ∀ args w, (callFunc g args).run Try.prog w = .ok (.enter g args) w) (hn : ns.length = n) (hs : w.ownsRow 0 59 4 (.slice (some ⟨gb, 0, none⟩) n cap) n (rc eI ns)) (hp : PredI g lb q w [gb]) (hl : n ≤ 1099511627776) :
    Calls Try.prog 45 #[.slice (some ⟨gb, 0, none⟩) n cap, .func (.func g) #[] lb] w fun e w' =>
      (∃ m, e = .returned (.slice (some ⟨gb, 0, none⟩) m cap) ∧ (ns.filter fun x => !q x).length = m ∧ w'.ownsRow 0 59 4 (.slice (some ⟨gb, 0, none⟩) m cap) m (rc eI (ns.filter fun x => !q x))) ∧ Kp [gb] w w' := by
  have hat : RsAt eI w (.slice (some ⟨gb, 0, none⟩) n cap) ns := by subst hn; exact RsOwn.at (em := eI) (e := 59) (B := 0) hs
  have cI := indexPureI g lb q ns (.slice (some ⟨gb, 0, none⟩) n cap) w eg hat (fun W x hW => (hp W x (Kp.of_below hW)).mono fun e w' h => ⟨h.1, below_then hW h.2⟩) (by omega)
  have hn' := Lib.hid hn
  have hs' := Lib.hid hs
  have hp' := Lib.hid hp
  clear hn hs hp hat
  go_enter Try.func45, Try.ntmps45
  go_wp2_with fail
  go_at_call 42
  refine cI.mono ?_
  rintro e w1 ⟨⟨rfl, hall⟩ | ⟨i0, x0, rfl, hx, hqx, hall⟩, hb1⟩
  · have hfil : (ns.filter fun x => !q x) = ns := List.filter_eq_self.2 fun x hx => by rw [hall x hx]; rfl
    have hown := ownsRow_left hs'.out fun g hg => hb1.block g (hs'.out.lt g hg).2
    have hfin := Lib.hid (show (ns.filter fun x => !q x).length = n ∧ w1.ownsRow 0 59 4 (.slice (some ⟨gb, 0, none⟩) n cap) n (rc eI (ns.filter fun x => !q x)) from by rw [hfil]; exact ⟨hn'.out, hown⟩)
    have hk := Lib.hid (Kp.of_below (F := [gb]) hb1)
    clear cI hall hown hfil hb1
    go_wp2
    go_ret
    exact ⟨⟨n, rfl, hfin.out.1, hfin.out.2⟩, hk.out⟩
  · have hi0 : i0 < n := by rw [← hn'.out]; exact (List.getElem?_eq_some_iff.1 hx).1
    have hown := ownsRow_left hs'.out fun g hg => hb1.block g (hs'.out.lt g hg).2
    have hf0 : ns.take i0 = (ns.take i0).filter fun x => !q x := (List.filter_eq_self.2 fun x hx => by rw [hall x hx]; rfl).symm
    have hf1 : (ns.take (i0 + 1)).filter (fun x => !q x) = ns.take i0 := by
      obtain ⟨q1, q2⟩ := List.getElem?_eq_some_iff.1 hx
      rw [List.take_succ_eq_append_getElem q1, q2, List.filter_append, ← hf0]
      simp [hqx]
    have hl0 : (ns.take i0).length = i0 := by rw [List.length_take]; have := hn'.out; omega
    have hstart : Hid (∃ xs, w1.ownsRow 0 59 4 (.slice (some ⟨gb, 0, none⟩) n cap) n xs ∧ xs.take (i0 * 4) = rc eI ((ns.take (i0 + 1)).filter fun x => !q x) ∧ ((ns.take (i0 + 1)).filter fun x => !q x).length = i0 ∧ xs.drop ((i0 + 1) * 4) = rc eI (ns.drop (i0 + 1)) ∧ Kp [gb] w w1) := Lib.hid ⟨rc eI ns, hown, by rw [hf1, rc_take], by rw [hf1, hl0], rc_drop eI _ _, Kp.of_below hb1⟩
    have hne : ((i0 : Int) == -1) = false := beq_false_of_ne (by omega)
    clear cI hall hown hf0 hf1 hl0 hx hqx hb1
    go_wp2
    clear hne
    go_loopw [5, 6] (fun s5 s6 wr => ∃ i j : Nat, s5 = .int .i64 (i : Int) ∧ s6 = .int .i64 (j : Int) ∧ i < j ∧ j ≤ n ∧ Hid (∃ xs, wr.ownsRow 0 59 4 (.slice (some ⟨gb, 0, none⟩) n cap) n xs ∧ xs.take (i * 4) = rc eI ((ns.take j).filter fun x => !q x) ∧ ((ns.take j).filter fun x => !q x).length = i ∧ xs.drop (j * 4) = rc eI (ns.drop j) ∧ Kp [gb] w wr)) (fun _ s6 wr => n - (RowKit.intOf s6).toNat)
    case atStart => exact ⟨i0, i0 + 1, rfl, by go_num, by omega, by omega, hstart⟩
    case round =>
      clear hstart
      obtain ⟨i, j, rfl, rfl, hij, hjn, hR⟩ := hrel
      obtain ⟨xs, hown, ht, htl, hd, hK⟩ := hR.out
      clear hR
      by_cases hlt : j < n
      · have hv : ns[j]? = some (ns[j]'(by have := hn'.out; omega)) := List.getElem?_eq_getElem _
        obtain ⟨V, hV⟩ : ∃ V, ns[j]'(by have := hn'.out; omega) = V := ⟨_, rfl⟩
        rw [hV] at hv
        obtain ⟨ql1, ql2⟩ := List.getElem?_eq_some_iff.1 hv
        have hdj : ns.drop j = V :: ns.drop (j + 1) := by rw [List.drop_eq_getElem_cons ql1, ql2]
        have hcx : ∀ t u, (rc eI (ns.drop j))[t]? = some u → wr.cell? ⟨gb, j * 4 + t, none⟩ = some u := fun t u h => by
          rw [← hd, List.getElem?_drop] at h
          have hlt2 := (List.getElem?_eq_some_iff.1 h).1
          rw [hown.cellAt _ (by rw [hown.1] at hlt2; exact hlt2), h]
        have c0 := hcx 0 (.int .i64 V.id) (by rw [hdj]; rfl)
        have c1 := hcx 1 (.int .i64 V.last) (by rw [hdj]; rfl)
        have c2 := hcx 2 (.int .i64 V.used) (by rw [hdj]; rfl)
        have c3 := hcx 3 (.int .i64 V.x) (by rw [hdj]; rfl)
        rw [Nat.add_zero] at c0
        have hcall := fun W hW => hp'.out W V hW
        have hbx : Below wr.heap.size wr (wr.alloc (.cells #[.int .i64 V.id, .int .i64 V.last, .int .i64 V.used, .int .i64 V.x] 59)) := (Below.refl _ _).alloc (Nat.le_refl _) _
        have hKx := hK.belowThen hbx
        have hcall2 := hcall _ hKx
        have hfs : (ns.take (j + 1)).filter (fun x => !q x) = (ns.take j).filter (fun x => !q x) ++ (if q V = true then [] else [V]) := by
          rw [List.take_succ_eq_append_getElem ql1, ql2, List.filter_append]
          cases hq2 : q V <;> simp [hq2]
        cases hq : q V
        · rw [hq] at hcall2 hfs
          have hown1 : ∀ W, Below wr.heap.size wr W → W.ownsRow 0 59 4 (.slice (some ⟨gb, 0, none⟩) n cap) n xs := fun W hW => ownsRow_left hown fun g hg => hW.block g (hown.lt g hg).2
          have hxl := hown.1
          have hnew : ∀ W, Below wr.heap.size wr W → Hid (∃ ys, ((((W.setCell ⟨gb, i * 4, none⟩ (.int .i64 V.id)).setCell ⟨gb, i * 4 + 1, none⟩ (.int .i64 V.last)).setCell ⟨gb, i * 4 + 2, none⟩ (.int .i64 V.used)).setCell ⟨gb, i * 4 + 3, none⟩ (.int .i64 V.x)).ownsRow 0 59 4 (.slice (some ⟨gb, 0, none⟩) n cap) n ys ∧
              ys.take ((i + 1) * 4) = rc eI ((ns.take (j + 1)).filter fun x => !q x) ∧ ((ns.take (j + 1)).filter fun x => !q x).length = i + 1 ∧ ys.drop ((j + 1) * 4) = rc eI (ns.drop (j + 1)) ∧ Kp [gb] w ((((W.setCell ⟨gb, i * 4, none⟩ (.int .i64 V.id)).setCell ⟨gb, i * 4 + 1, none⟩ (.int .i64 V.last)).setCell ⟨gb, i * 4 + 2, none⟩ (.int .i64 V.used)).setCell ⟨gb, i * 4 + 3, none⟩ (.int .i64 V.x))) := fun W hW => Lib.hid (by
            obtain ⟨o1, _⟩ := (hown1 W hW).stored (i * 4) (.int .i64 V.id)
            obtain ⟨o2, _⟩ := o1.stored (i * 4 + 1) (.int .i64 V.last)
            obtain ⟨o3, _⟩ := o2.stored (i * 4 + 2) (.int .i64 V.used)
            obtain ⟨o4, _⟩ := o3.stored (i * 4 + 3) (.int .i64 V.x)
            refine ⟨_, o4, ?_, ?_, ?_, ((((hK.belowThen hW).setCell (ad := ⟨gb, i * 4, none⟩) (.inl (by simp)) _).setCell (ad := ⟨gb, i * 4 + 1, none⟩) (.inl (by simp)) _).setCell (ad := ⟨gb, i * 4 + 2, none⟩) (.inl (by simp)) _).setCell (ad := ⟨gb, i * 4 + 3, none⟩) (.inl (by simp)) _⟩
            · rw [hfs, rc_app, ← ht, if_neg (by decide)]
              have e : rc eI [V] = [.int .i64 V.id, .int .i64 V.last, .int .i64 V.used, .int .i64 V.x] := rfl
              rw [e]
              apply List.ext_getElem?
              intro t
              rw [List.getElem?_take]
              by_cases h1 : t < i * 4
              · rw [if_pos (by omega), List.getElem?_set_ne (by omega), List.getElem?_set_ne (by omega), List.getElem?_set_ne (by omega), List.getElem?_set_ne (by omega), List.getElem?_append_left (by rw [List.length_take]; omega), List.getElem?_take, if_pos h1]
              · have hle : (xs.take (i * 4)).length = i * 4 := by rw [List.length_take]; omega
                rw [List.getElem?_append_right (by omega), hle]
                rcases (by omega : t = i * 4 ∨ t = i * 4 + 1 ∨ t = i * 4 + 2 ∨ t = i * 4 + 3 ∨ (i + 1) * 4 ≤ t) with e | e | e | e | e
                · subst e
                  rw [if_pos (by omega), List.getElem?_set_ne (by omega), List.getElem?_set_ne (by omega), List.getElem?_set_ne (by omega), List.getElem?_set_self (by omega)]; simp
                · subst e
                  rw [if_pos (by omega), List.getElem?_set_ne (by omega), List.getElem?_set_ne (by omega), List.getElem?_set_self (by rw [List.length_set]; omega)]; simp
                · subst e
                  rw [if_pos (by omega), List.getElem?_set_ne (by omega), List.getElem?_set_self (by rw [List.length_set, List.length_set]; omega)]; simp
                · subst e
                  rw [if_pos (by omega), List.getElem?_set_self (by rw [List.length_set, List.length_set, List.length_set]; omega)]; simp
                · rw [if_neg (by omega), List.getElem?_eq_none (by simp; omega)]
            · rw [hfs, List.length_append, htl]; rfl
            · rw [List.drop_set_of_lt (by omega), List.drop_set_of_lt (by omega), List.drop_set_of_lt (by omega), List.drop_set_of_lt (by omega)]
              have h3 : (xs.drop (j * 4)).drop 4 = rc eI (ns.drop (j + 1)) := by rw [hd, hdj]; rfl
              rw [List.drop_drop] at h3
              rw [← h3]
              congr 1
              omega)
          have hnew' := Lib.hid hnew
          have hcl : ∀ W, Below wr.heap.size wr W → (∃ u, W.cell? ⟨gb, i * 4, none⟩ = some u) ∧ (∃ u, W.cell? ⟨gb, i * 4 + 1, none⟩ = some u) ∧ (∃ u, W.cell? ⟨gb, i * 4 + 2, none⟩ = some u) ∧ (∃ u, W.cell? ⟨gb, i * 4 + 3, none⟩ = some u) ∧ W.frozen? ⟨gb, i * 4, none⟩ = false ∧ W.frozen? ⟨gb, i * 4 + 1, none⟩ = false ∧ W.frozen? ⟨gb, i * 4 + 2, none⟩ = false ∧ W.frozen? ⟨gb, i * 4 + 3, none⟩ = false := fun W hW => by
            have ho := hown1 W hW
            refine ⟨⟨_, by rw [ho.cellAt _ (by omega)]; exact List.getElem?_eq_getElem (by omega)⟩, ⟨_, by rw [ho.cellAt _ (by omega)]; exact List.getElem?_eq_getElem (by omega)⟩, ⟨_, by rw [ho.cellAt _ (by omega)]; exact List.getElem?_eq_getElem (by omega)⟩, ⟨_, by rw [ho.cellAt _ (by omega)]; exact List.getElem?_eq_getElem (by omega)⟩, ho.frozenAt _, ho.frozenAt _, ho.frozenAt _, ho.frozenAt _⟩
          have hcl' := Lib.hid hcl
          have hbx' := Lib.hid hbx
          clear hown hown1 ht htl hd hK hKx hcall hv hV ql1 ql2 hdj hcx hfs hq hxl hnew hcl hbx
          obtain ⟨Vi, Vl, Vu, Vx⟩ := V
          simp only at c0 c1 c2 c3 hcall2 hnew' hbx'
          go_wp2_with fail
          go_at_fn g
          refine hcall2.mono ?_
          rintro e w3 ⟨rfl, hb3⟩
          have hB3 := below_then hbx'.out hb3
          obtain ⟨⟨u0, k0⟩, ⟨u1, k1⟩, ⟨u2, k2⟩, ⟨u3, k3⟩, f0, f1, f2, f3⟩ := hcl'.out w3 hB3
          have hk3 : w3.heap[wr.heap.size]? = some (.cells #[.int .i64 Vi, .int .i64 Vl, .int .i64 Vu, .int .i64 Vx] 59 (0, 0)) := (hb3.block _ (by simp)).trans (heap_alloc_new wr _)
          have d0 := Lib.cell_of_heap hk3 0
          have d1 := Lib.cell_of_heap hk3 1
          have d2 := Lib.cell_of_heap hk3 2
          have d3 := Lib.cell_of_heap hk3 3
          have hfin := hnew'.out w3 hB3
          clear hcall2 hb3 hB3 hk3
          go_wp2
          go_roundw
          case rel => exact ⟨i + 1, j + 1, by go_num, by go_num, by omega, by omega, hfin⟩
          case measure => simp [RowKit.intOf]; omega
        · rw [hq] at hcall2 hfs
          rw [if_pos rfl, List.append_nil] at hfs
          have hnew : ∀ W, Below wr.heap.size wr W → Hid (∃ xs, W.ownsRow 0 59 4 (.slice (some ⟨gb, 0, none⟩) n cap) n xs ∧ xs.take (i * 4) = rc eI ((ns.take (j + 1)).filter fun x => !q x) ∧ ((ns.take (j + 1)).filter fun x => !q x).length = i ∧ xs.drop ((j + 1) * 4) = rc eI (ns.drop (j + 1)) ∧ Kp [gb] w W) := fun W hW => Lib.hid ⟨xs, ownsRow_left hown fun g hg => hW.block g (hown.lt g hg).2, by rw [hfs, ht], by rw [hfs, htl], by
              have h3 : (xs.drop (j * 4)).drop 4 = rc eI (ns.drop (j + 1)) := by rw [hd, hdj]; rfl
              rw [List.drop_drop] at h3
              rw [← h3]
              congr 1
              omega, hK.belowThen hW⟩
          have hnew' := Lib.hid hnew
          have hbx' := Lib.hid hbx
          clear hown ht htl hd hK hKx hcall hv hV ql1 ql2 hdj hcx hfs hq hnew hbx
          obtain ⟨Vi, Vl, Vu, Vx⟩ := V
          simp only at c0 c1 c2 c3 hcall2 hbx'
          go_wp2_with fail
          go_at_fn g
          refine hcall2.mono ?_
          rintro e w3 ⟨rfl, hb3⟩
          have hfin := hnew'.out w3 (below_then hbx'.out hb3)
          clear hcall2 hb3
          go_wp2
          go_roundw
          case rel => exact ⟨i, j + 1, by go_num, by go_num, by omega, by omega, hfin⟩
          case measure => simp [RowKit.intOf]; omega
      · have hjn2 : j = n := by omega
        have hall : ns.take j = ns := List.take_of_length_le (by have := hn'.out; omega)
        rw [hall] at ht htl
        have hfin : ∀ W, W.ownsRow 0 59 4 (.slice (some ⟨gb, 0, none⟩) i cap) i (xs.take (i * 4)) → wr.grownBy W (some gb) → (∃ m, Ending.returned (.slice (some ⟨gb, 0, none⟩) i cap) = .returned (.slice (some ⟨gb, 0, none⟩) m cap) ∧ (ns.filter fun x => !q x).length = m ∧ W.ownsRow 0 59 4 (.slice (some ⟨gb, 0, none⟩) m cap) m (rc eI (ns.filter fun x => !q x))) ∧ Kp [gb] w W := fun W h1 h2 => by
          rw [ht] at h1
          exact ⟨⟨i, rfl, htl, h1⟩, hK.grown h2 fun k hk => by cases hk; exact .inl (by simp)⟩
        have hfin' := Lib.hid hfin
        have hown' := Lib.hid hown
        have hcap : n ≤ cap ∧ cap ≤ maxLen := by
          rcases hown.2 with ⟨h', _⟩ | ⟨g', cap', cur, h', _, _, h3, h4, _⟩
          · simp at h'
          · simp only [Value.slice.injEq] at h'
            obtain ⟨_, _, rfl⟩ := h'
            exact ⟨h3, h4⟩
        unfold maxLen at hcap
        obtain ⟨hcap1, hcap2⟩ := hcap
        clear hown ht htl hd hK hall hfin
        go_wp2_with (first | (refine wp_clearI rfl _ rfl hown'.out (by omega) _ rfl ?_; intro w5 ho5 hg5) | fail)
        go_ret
        exact hfin'.out _ ho5 hg5
end Go.Proofs.Ytnmcgmfpalgpnaa.Se
