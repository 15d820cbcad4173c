/-
  slices.Clone AT ROWS WHOSE RESULT IS OF TYPE string, THE PROGRAM's Rows AND Set.
-/
import Derived.Test.YtnmcgmfpalgpnaaSesAskS
import Derived.Test.YtnmcgmfpalgpnaaSesRefSet
set_option linter.unusedVariables false
namespace Go.Proofs.Ytnmcgmfpalgpnaa.Se
open Go.Lib Go.RowKit

theorem infoTS : (Try.prog.info? 42).map (fun i => (i.zero, i.size, i.bytes)) = some (some (.agg #[.int .i64 0, .int .i64 0, .int .i64 0, .string ⟨#[]⟩]), 4, 40) := by kernel_rfl
/-- append onto an empty row of the call's own, of rows that lie wherever -/
theorem append_allS {w : World} {ops : Array Oper} {rest : List Oper} {o : Oper} {a : Act} {Q : Exit → Act → World → Prop} (hgd : o.guard = none) (s x : Operand)
    (ho : o.op = .call { callee := .builtin .append, args := #[s, x], argTypes := #[24, 24] }) (base : Nat) (v xv : Value) (t : Tb ByteArray) (hs : a.eval s = v) (hx : a.eval x = xv)
    (hown : w.ownsRow base 42 4 v 0 []) (hS : RsAt eS w xv t) (hls : t.length ≤ 1099511627776) (hbase : base ≤ w.heap.size)
    (h : ∀ v' w', RsOwn eS 42 base v' t w' → w.grownBy w' v.ownBlock → wpList Try.prog ops Q rest (a.put o.dst v') w') : wpList Try.prog ops Q (o :: rest) a w := by
  obtain ⟨i0, hi, hz0, hz1, hz2⟩ := info_parts infoTS
  obtain ⟨A, b, off, c, rfl, h1, h2, h3, h4⟩ := hS
  cases A with
  | none =>
    have hl : t = [] := by
      cases t with
      | nil => rfl
      | cons y t =>
        obtain ⟨h5, _⟩ := h3 (by simp)
        cases h5
    subst hl
    refine wpList_plain hgd fun K hK => ?_
    have hrun : (Builtin.append_ #[24, 24] o.type #[v, .slice none 0 c]).run Try.prog w = .ok v w := by
      rcases hown.2 with ⟨rfl, _⟩ | ⟨g, cap, cur, rfl, _, _, hnc, _⟩
      · simp [Builtin.append_, run_underlying Try.underlying24, sizeOf, typeInfo, hi, Builtin.lenOf, Builtin.firstCells]
      · simp [Builtin.append_, run_underlying Try.underlying24, sizeOf, typeInfo, hi, Builtin.lenOf, Builtin.firstCells, storeCells]
    have hk := hK _ _ (h v w hown (World.grownBy.refl w _))
    unfold Oper.wp execOp
    simp only [ho, resolve, invoke, builtin, Sem.run_bind, Sem.run_pure, Result.andThen_ok, List.map_toArray, List.map_cons, List.map_nil, hs, hx]
    rw [show (List.length ([] : Tb ByteArray)) = 0 from rfl, hrun]
    exact hk
  | some ad =>
    refine wpList_append_own _ hgd s x 24 ho base 42 i0 (.agg #[.int .i64 0, .int .i64 0, .int .i64 0, .string ⟨#[]⟩]) 4 40 Try.underlying24 hi hz0 hz1 hz2 rfl (by decide) v 0 [] hs hown ad t.length c (rc eS t) hx (rc_len eS t) (fun j u hj => ?_) (rc_ones (fun _ => rfl) t) (by unfold maxLen; omega) (by omega) hbase (fun v' w' h5 h6 _ => h v' w' ?_ h6)
    · have hl := (List.getElem?_eq_some_iff.1 hj).1
      rw [rc_len] at hl
      obtain ⟨he, _⟩ := h3 (by omega)
      obtain rfl := Option.some.inj he
      have := rc_cell h4 hj
      unfold Addr.add
      by_cases hj0 : j = 0
      · subst hj0; simpa using this
      · rw [if_neg hj0]; exact this
    · unfold RsOwn
      rw [Nat.zero_add, List.nil_append] at h5
      exact h5

set_option maxHeartbeats 4000000 in
set_option maxRecDepth 100000 in
theorem cloneS (v : Value) (t : Tb ByteArray) (w : World) (hv : RsAt eS w v t) (hl : t.length ≤ 1099511627776) :
    Calls Try.prog 27 #[v] w fun e w' => (∃ u, e = .returned u ∧ RsOwn eS 42 w.heap.size u t w') ∧ Below w.heap.size w w' := by
  have hq : ∀ (w : World) (a : Option Addr) (n c n' c' : Nat), (binOp .eql 24 (.slice a n c) (.slice none n' c')).run Try.prog w = .ok (.bool a.isNone) w := fun w a n c n' c' => Lib.run_eql_slice_nil w _ _ a n c n' c' Try.underlying24
  have hv0 := hv
  obtain ⟨A, b, off, c, rfl, h1, h2, h3, h4⟩ := hv
  cases A with
  | none =>
    have hl0 : t = [] := by
      cases t with
      | nil => rfl
      | cons y t =>
        obtain ⟨h5, _⟩ := h3 (by simp)
        cases h5
    subst hl0
    clear h1 h2 h3 h4 hv0 hl
    go_enter Try.func27, Try.ntmps27
    go_wp2
    go_ret
    exact ⟨⟨_, rfl, RsOwn.nil _ _ _ _⟩, Below.refl _ _⟩
  | some ad =>
    have hal : Below w.heap.size w (w.alloc (.cells #[] 42)) := (Below.refl _ _).alloc (Nat.le_refl _) _
    have hv1 := hv0.kept hal
    have hlit := lit_nil (B := w.heap.size) (w := w) 42 (Nat.le_refl _)
    have hal' := Lib.hid hal
    clear h1 h2 h3 h4 hv0 hal
    go_enter Try.func27, Try.ntmps27
    go_wp2_with (first | (refine append_allS rfl _ _ rfl w.heap.size _ _ t rfl rfl hlit hv1 hl (by simp) ?_; intro v' w' hown hg) | fail)
    go_wp2
    go_ret
    exact ⟨⟨v', rfl, hown⟩, hal'.out.grown hg (by simp) fun k hk => by rw [← Option.some.inj hk]; exact Nat.le_refl _⟩

set_option maxHeartbeats 4000000 in
set_option maxRecDepth 100000 in
theorem rowsS : RowsC eS 26 42 14 := by
  intro B b v t w hT hB ht
  have cC := cloneS v t w hT.own.at (by omega)
  have hcell : w.cell? ⟨b, 0, none⟩ = some v := by rw [Lib.cell_of_heap hT.blk]; rfl
  clear hT
  go_enter Try.func14, Try.ntmps14
  go_wp2_with fail
  go_at_call 27
  refine cC.mono ?_
  rintro e w1 ⟨⟨u, rfl, h1⟩, h2⟩
  have h1' := Lib.hid h1
  have h2' := Lib.hid h2
  clear h1 h2 cC
  go_wp2
  go_ret
  exact ⟨⟨u, rfl, h1'.out⟩, h2'.out⟩

def wrongK {α : Type} (l : Tb α) (k : Nat) : Bool := match l[k]? with
  | some r => decide (r.id ≤ prev 0 l k) || decide (r.last < 0) || decide (r.used < r.id)
  | none => false
theorem wrongK_is {α : Type} {l : Tb α} {k : Nat} {r : Ro α} (h : l[k]? = some r) : wrongK l k = (decide (r.id ≤ prev 0 l k) || decide (r.last < 0) || decide (r.used < r.id)) := by unfold wrongK; rw [h]
theorem wrongK_no {α : Type} {l : Tb α} {k : Nat} {r : Ro α} (h : l[k]? = some r) (hw : wrongK l k = true) : ¬ okRo (prev 0 l k) r := by
  rw [wrongK_is h] at hw
  unfold okRo
  simp only [Bool.or_eq_true, decide_eq_true_eq] at hw
  omega
theorem wrongK_yes {α : Type} {l : Tb α} {k : Nat} {r : Ro α} (h : l[k]? = some r) (hw : wrongK l k = false) : okRo (prev 0 l k) r := by
  rw [wrongK_is h] at hw
  unfold okRo
  simp only [Bool.or_eq_false_iff, decide_eq_false_iff_not] at hw
  omega
set_option maxHeartbeats 4000000 in
set_option maxRecDepth 100000 in
theorem setFnS (l : Tb ByteArray) (k : Nat) (r : Ro ByteArray) (hr : l[k]? = some r) (p B : Nat) (a W : World) (hb : Below B a W) (hB : B ≤ p) (hp : W.heap[p]? = some (.cells #[.int .i64 (prev 0 l k)] 3 (0, 0))) :
    Calls Try.prog 28 #[.agg #[.int .i64 r.id, .int .i64 r.last, .int .i64 r.used, .string r.x], .pointer (some ⟨p, 0, none⟩)] W fun e w' => e = .returned (.bool (wrongK l k)) ∧ Below B a w' ∧ w'.heap[p]? = some (.cells #[.int .i64 (prev 0 l (k + 1))] 3 (0, 0)) := by
  rw [wrongK_is hr, prev_some hr]
  generalize prev 0 l k = P at hp ⊢
  obtain ⟨rid, rl, ru, rx⟩ := r
  have hpl : p < W.heap.size := (Array.getElem?_eq_some_iff.1 hp).1
  have hal : Below W.heap.size W (W.alloc (.cells #[.int .i64 rid, .int .i64 rl, .int .i64 ru, .string rx] 42)) := (Below.refl _ _).alloc (Nat.le_refl _) _
  obtain ⟨w1, hw1⟩ : ∃ w1, W.alloc (.cells #[.int .i64 rid, .int .i64 rl, .int .i64 ru, .string rx] 42) = w1 := ⟨_, rfl⟩
  obtain ⟨x, hx⟩ : ∃ x, W.heap.size = x := ⟨_, rfl⟩
  have hp1 : w1.heap[p]? = some (.cells #[.int .i64 P] 3 (0, 0)) := by rw [← hw1]; exact (hal.block p hpl).trans hp
  have hx1 : w1.heap[x]? = some (.cells #[.int .i64 rid, .int .i64 rl, .int .i64 ru, .string rx] 42 (0, 0)) := by rw [← hw1, ← hx]; exact heap_alloc_new _ _
  have hxp : x ≠ p := by omega
  have b1 : Below B a w1 := by rw [← hw1]; exact hb.alloc (by omega) _
  have b2 : Below B a (w1.setCell ⟨p, 0, none⟩ (.int .i64 rid)) := b1.setCell hB _
  have hx2 : (w1.setCell ⟨p, 0, none⟩ (.int .i64 rid)).heap[x]? = some (.cells #[.int .i64 rid, .int .i64 rl, .int .i64 ru, .string rx] 42 (0, 0)) := by rw [Below.heap_setCell w1 ⟨p, 0, none⟩ _ x hxp]; exact hx1
  have hp2 : (w1.setCell ⟨p, 0, none⟩ (.int .i64 rid)).heap[p]? = some (.cells #[.int .i64 rid] 3 (0, 0)) := one_setCell hp1
  have c0 := Lib.cell_of_heap hx1 0
  have k0 := Lib.cell_of_heap hp1 0
  have f0 := Lib.frozen_of_heap hp1 0
  have d0 := Lib.cell_of_heap hx2 0
  have d1 := Lib.cell_of_heap hx2 1
  have d2 := Lib.cell_of_heap hx2 2
  have hfin := Lib.hid (And.intro b2 hp2)
  have hx2' := Lib.hid hx2
  clear hp hp1 hx1 hxp b1 b2 hx2 hp2 hal hb hpl
  subst hw1
  subst hx
  show Calls _ _ _ _ fun e w' => e = .returned (.bool (decide (rid ≤ P) || decide (rl < 0) || decide (ru < rid))) ∧ _ ∧ _
  cases h1 : decide (rid ≤ P)
  · cases h2 : decide (rl < 0)
    · go_enter Try.func28, Try.ntmps28
      go_wp2
      go_ret
      exact ⟨rfl, hfin.out⟩
    · go_enter Try.func28, Try.ntmps28
      go_wp2
      go_ret
      exact ⟨rfl, hfin.out⟩
  · go_enter Try.func28, Try.ntmps28
    go_wp2
    go_ret
    exact ⟨rfl, hfin.out⟩
end Go.Proofs.Ytnmcgmfpalgpnaa.Se
