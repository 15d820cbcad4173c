/-
  slices.Clone AT ROWS WHOSE RESULT IS OF TYPE int, THE PROGRAM's Rows AND Set.
-/
import Derived.Test.YtnmcgmfpalgpnaaSesAskI
import Derived.Test.YtnmcgmfpalgpnaaSesRefSet
import Derived.Test.YtnmcgmfpalgpnaaSesSetS
set_option linter.unusedVariables false
namespace Go.Proofs.Ytnmcgmfpalgpnaa.Se
open Go.Lib Go.RowKit

theorem infoTI : (Try.prog.info? 59).map (fun i => (i.zero, i.size, i.bytes)) = some (some (.agg #[.int .i64 0, .int .i64 0, .int .i64 0, .int .i64 0]), 4, 32) := by kernel_rfl
/-- append onto an empty row of the call's own, of rows that lie wherever -/
theorem append_allI {w : World} {ops : Array Oper} {rest : List Oper} {o : Oper} {a : Act} {Q : Exit → Act → World → Prop} (hgd : o.guard = none) (s x : Operand)
    (ho : o.op = .call { callee := .builtin .append, args := #[s, x], argTypes := #[48, 48] }) (base : Nat) (v xv : Value) (t : Tb Int) (hs : a.eval s = v) (hx : a.eval x = xv)
    (hown : w.ownsRow base 59 4 v 0 []) (hS : RsAt eI w xv t) (hls : t.length ≤ 1099511627776) (hbase : base ≤ w.heap.size)
    (h : ∀ v' w', RsOwn eI 59 base v' t w' → w.grownBy w' v.ownBlock → wpList Try.prog ops Q rest (a.put o.dst v') w') : wpList Try.prog ops Q (o :: rest) a w := by
  obtain ⟨i0, hi, hz0, hz1, hz2⟩ := info_parts infoTI
  obtain ⟨A, b, off, c, rfl, h1, h2, h3, h4⟩ := hS
  cases A with
  | none =>
    have hl : t = [] := by
      cases t with
      | nil => rfl
      | cons y t =>
        obtain ⟨h5, _⟩ := h3 (by simp)
        cases h5
    subst hl
    refine wpList_plain hgd fun K hK => ?_
    have hrun : (Builtin.append_ #[48, 48] o.type #[v, .slice none 0 c]).run Try.prog w = .ok v w := by
      rcases hown.2 with ⟨rfl, _⟩ | ⟨g, cap, cur, rfl, _, _, hnc, _⟩
      · simp [Builtin.append_, run_underlying Try.underlying48, sizeOf, typeInfo, hi, Builtin.lenOf, Builtin.firstCells]
      · simp [Builtin.append_, run_underlying Try.underlying48, sizeOf, typeInfo, hi, Builtin.lenOf, Builtin.firstCells, storeCells]
    have hk := hK _ _ (h v w hown (World.grownBy.refl w _))
    unfold Oper.wp execOp
    simp only [ho, resolve, invoke, builtin, Sem.run_bind, Sem.run_pure, Result.andThen_ok, List.map_toArray, List.map_cons, List.map_nil, hs, hx]
    rw [show (List.length ([] : Tb Int)) = 0 from rfl, hrun]
    exact hk
  | some ad =>
    refine wpList_append_own _ hgd s x 48 ho base 59 i0 (.agg #[.int .i64 0, .int .i64 0, .int .i64 0, .int .i64 0]) 4 32 Try.underlying48 hi hz0 hz1 hz2 rfl (by decide) v 0 [] hs hown ad t.length c (rc eI t) hx (rc_len eI t) (fun j u hj => ?_) (rc_ones (fun _ => rfl) t) (by unfold maxLen; omega) (by omega) hbase (fun v' w' h5 h6 _ => h v' w' ?_ h6)
    · have hl := (List.getElem?_eq_some_iff.1 hj).1
      rw [rc_len] at hl
      obtain ⟨he, _⟩ := h3 (by omega)
      obtain rfl := Option.some.inj he
      have := rc_cell h4 hj
      unfold Addr.add
      by_cases hj0 : j = 0
      · subst hj0; simpa using this
      · rw [if_neg hj0]; exact this
    · unfold RsOwn
      rw [Nat.zero_add, List.nil_append] at h5
      exact h5

set_option maxHeartbeats 4000000 in
set_option maxRecDepth 100000 in
theorem cloneI (v : Value) (t : Tb Int) (w : World) (hv : RsAt eI w v t) (hl : t.length ≤ 1099511627776) :
    Calls Try.prog 34 #[v] w fun e w' => (∃ u, e = .returned u ∧ RsOwn eI 59 w.heap.size u t w') ∧ Below w.heap.size w w' := by
  have hq : ∀ (w : World) (a : Option Addr) (n c n' c' : Nat), (binOp .eql 48 (.slice a n c) (.slice none n' c')).run Try.prog w = .ok (.bool a.isNone) w := fun w a n c n' c' => Lib.run_eql_slice_nil w _ _ a n c n' c' Try.underlying48
  have hv0 := hv
  obtain ⟨A, b, off, c, rfl, h1, h2, h3, h4⟩ := hv
  cases A with
  | none =>
    have hl0 : t = [] := by
      cases t with
      | nil => rfl
      | cons y t =>
        obtain ⟨h5, _⟩ := h3 (by simp)
        cases h5
    subst hl0
    clear h1 h2 h3 h4 hv0 hl
    go_enter Try.func34, Try.ntmps34
    go_wp2
    go_ret
    exact ⟨⟨_, rfl, RsOwn.nil _ _ _ _⟩, Below.refl _ _⟩
  | some ad =>
    have hal : Below w.heap.size w (w.alloc (.cells #[] 59)) := (Below.refl _ _).alloc (Nat.le_refl _) _
    have hv1 := hv0.kept hal
    have hlit := lit_nil (B := w.heap.size) (w := w) 59 (Nat.le_refl _)
    have hal' := Lib.hid hal
    clear h1 h2 h3 h4 hv0 hal
    go_enter Try.func34, Try.ntmps34
    go_wp2_with (first | (refine append_allI rfl _ _ rfl w.heap.size _ _ t rfl rfl hlit hv1 hl (by simp) ?_; intro v' w' hown hg) | fail)
    go_wp2
    go_ret
    exact ⟨⟨v', rfl, hown⟩, hal'.out.grown hg (by simp) fun k hk => by rw [← Option.some.inj hk]; exact Nat.le_refl _⟩

set_option maxHeartbeats 4000000 in
set_option maxRecDepth 100000 in
theorem rowsI : RowsC eI 50 59 21 := by
  intro B b v t w hT hB ht
  have cC := cloneI v t w hT.own.at (by omega)
  have hcell : w.cell? ⟨b, 0, none⟩ = some v := by rw [Lib.cell_of_heap hT.blk]; rfl
  clear hT
  go_enter Try.func21, Try.ntmps21
  go_wp2_with fail
  go_at_call 34
  refine cC.mono ?_
  rintro e w1 ⟨⟨u, rfl, h1⟩, h2⟩
  have h1' := Lib.hid h1
  have h2' := Lib.hid h2
  clear h1 h2 cC
  go_wp2
  go_ret
  exact ⟨⟨u, rfl, h1'.out⟩, h2'.out⟩
end Go.Proofs.Ytnmcgmfpalgpnaa.Se
