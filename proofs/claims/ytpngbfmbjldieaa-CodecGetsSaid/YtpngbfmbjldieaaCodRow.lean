/-
  ROWS OF THE CALL's OWN THAT GROW BY ONE ELEMENT; a tape that is read into a struct of the call's own ('TS').
-/
import Derived.Test.YtpngbfmbjldieaaCodTapeD
set_option linter.unusedVariables false
namespace Go.Proofs.Ytpngbfmbjldieaa.Cd
open Go.Lib Go.RowKit
open Bo (Kp Row ownsRow_heap sv sv_data)
open Ly (BOwn Wr word text flag num word_len num_word num_snoc num_lt info_parts)

theorem infoStr : (Try.prog.info? 9).map (fun i => (i.zero, i.size, i.bytes)) = some (some (.string ⟨#[]⟩), 1, 16) := by kernel_rfl
theorem infoInt : (Try.prog.info? 3).map (fun i => (i.zero, i.size, i.bytes)) = some (some (.int .i64 0), 1, 8) := by kernel_rfl
theorem infoEnt : (Try.prog.info? 76).map (fun i => (i.zero, i.size, i.bytes)) = some (some (.agg #[.string ⟨#[]⟩, .int .i64 0, .string ⟨#[]⟩, .bool false]), 4, 48) := by kernel_rfl
/-- a row that was written on: it holds l -/
structure WrR {α : Type} (et : TypeId) (size : Nat) (enc : α → List Value) (B : Nat) (w w' : World) (v v' : Value) (l : List α) : Prop where
  own : w'.ownsRow B et size v' l.length (l.flatMap enc)
  kp : Kp v.ownBlock.toList w w'
theorem append_el {α : Type} {enc : α → List Value} {size bytes : Nat} {et st : TypeId} {z : Value} (hu : Try.prog.underlying st = some (.slice et)) (hi0 : (Try.prog.info? et).map (fun i => (i.zero, i.size, i.bytes)) = some (some z, size, bytes)) (hz : z.cells.size = size) (he : ∀ x : α, (enc x).length = size) (h1 : ∀ x : α, ∀ u ∈ enc x, u.oneCell' = true) (hs0 : 0 < size)
    {w0 : World} {ops : Array Oper} {rest : List Oper} {o : Oper} {a : Act} {Q : Exit → Act → World → Prop} (x : α) {cs : Array Value} (hcs : cs = (enc x).toArray) (hgd : o.guard = none) (s xo : Operand)
    (ho : o.op = .call { callee := .builtin .append, args := #[s, xo], argTypes := #[st, st] }) (base : Nat) (v : Value) (l : List α) (g : Nat) (hgz : g = w0.heap.size) (hs : a.eval s = v) (hx : a.eval xo = .slice (some ⟨g, 0, none⟩) 1 1)
    (hown : w0.ownsRow base et size v l.length (l.flatMap enc)) (hl : (l.length + 1) * bytes ≤ 140737488355328) (hl2 : l.length + 1 ≤ maxLen) (hbase : base ≤ w0.heap.size)
    (h : ∀ g cap w', WrR et size enc base w0 w' v (.slice (some ⟨g, 0, none⟩) (l.length + 1) cap) (l ++ [x]) → wpList Try.prog ops Q rest (a.put o.dst (.slice (some ⟨g, 0, none⟩) (l.length + 1) cap)) w') :
    wpList Try.prog ops Q (o :: rest) a (w0.alloc (.cells cs et)) := by
  obtain ⟨i0, hi, hz0, hz1, hz2⟩ := info_parts hi0
  subst hcs
  subst hgz
  have hal : Below w0.heap.size w0 (w0.alloc (.cells (enc x).toArray et)) := (Below.refl _ _).alloc (Nat.le_refl _) _
  have hnew := heap_alloc_new w0 (.cells (enc x).toArray et)
  refine wpList_append_lies _ hgd s xo st ho base et i0 z size bytes hu hi hz0 hz1 hz2 hz hs0 v l.length (l.flatMap enc) hs (World.ownsRow.alloc hown _) ⟨w0.heap.size, 0, none⟩ 1 1 (enc x) hx (by rw [he, Nat.one_mul]) (fun j u hj => ?_) (h1 x) (by decide) hl2 hl (by have := hal.size; omega) _ rfl (fun g cap w' h5 h6 h7 h8 => h g cap w' ?_)
  · have hp : (⟨w0.heap.size, 0, none⟩ : Addr).add j = ⟨w0.heap.size, j, none⟩ := by unfold Addr.add; split <;> simp_all
    rw [hp, Lib.cell_of_heap hnew]
    simpa using hj
  · refine ⟨?_, (Kp.of_below hal).then ((Kp.refl _ _).grown h6 fun k hk => .inl (by simp [hk])) fun k hk => .inl hk⟩
    rw [List.length_append, List.flatMap_append]
    simpa using h5

/-- a tape that is read into the struct at block cb; rb: the result's block -/
structure TS (w : World) (M tb : Nat) (full : Row) (s : St) (rb cb : Nat) (ty : TypeId) (rc cc : Array Value) (W : World) : Prop where
  tp : TpIs W M tb full s
  rbk : W.heap[rb]? = some (.cells rc ty (0, 0))
  cbk : W.heap[cb]? = some (.cells cc ty (0, 0))
  kp : Kp [tb] w W
  lo : tb < M ∧ M ≤ w.heap.size ∧ w.heap.size ≤ rb ∧ rb < cb
section
variable {w W W' : World} {M tb : Nat} {full : Row} {s s' : St} {rb cb : Nat} {ty : TypeId} {rc cc : Array Value}
theorem TS.call (h : TS w M tb full s rb cb ty rc cc W) (ht : TpIs W' M tb full s') (hk : Kp [tb] W W') : TS w M tb full s' rb cb ty rc cc W' := by
  obtain ⟨l1, l2, l3, l4⟩ := h.lo
  refine ⟨ht, (hk.block rb (Array.getElem?_eq_some_iff.1 h.rbk).1 ?_).trans h.rbk, (hk.block cb (Array.getElem?_eq_some_iff.1 h.cbk).1 ?_).trans h.cbk, h.kp.trans hk, h.lo⟩
  · simp; omega
  · simp; omega
theorem TS.below (h : TS w M tb full s rb cb ty rc cc W) (hb : Below W.heap.size W W') : TS w M tb full s rb cb ty rc cc W' :=
  h.call (h.tp.kept hb) (Kp.of_below hb)
theorem TS.set (h : TS w M tb full s rb cb ty rc cc W) (j : Nat) (v : Value) {cc' : Array Value} (hc : cc.setIfInBounds j v = cc') : TS w M tb full s rb cb ty rc cc' (W.setCell ⟨cb, j, none⟩ v) := by
  obtain ⟨l1, l2, l3, l4⟩ := h.lo
  refine ⟨h.tp.frame (by simp) fun k hk => Below.heap_setCell _ _ _ k (by show k ≠ cb; omega), (Below.heap_setCell _ _ _ rb (by show rb ≠ cb; omega)).trans h.rbk, ?_, h.kp.setCell (.inr (by show w.heap.size ≤ cb; omega)) _, h.lo⟩
  rw [← hc]
  simp [World.setCell, Array.getElem?_modify, h.cbk]
theorem TS.cell (h : TS w M tb full s rb cb ty rc cc W) (j : Nat) : W.cell? ⟨cb, j, none⟩ = cc[j]? := Lib.cell_of_heap h.cbk j
theorem TS.froz (h : TS w M tb full s rb cb ty rc cc W) (j : Nat) : W.frozen? ⟨cb, j, none⟩ = false := Lib.frozen_of_heap h.cbk j
/-- what a row behind cb leaves -/
theorem TS.row (h : TS w M tb full s rb cb ty rc cc W) {v : Value} (hk : Kp v.ownBlock.toList W W') (hv : ∀ g, v.ownBlock = some g → cb < g) : TS w M tb full s rb cb ty rc cc W' := by
  obtain ⟨l1, l2, l3, l4⟩ := h.lo
  have hnot : ∀ k, k ≤ cb → k < W.heap.size → W'.heap[k]? = W.heap[k]? := fun k hk2 hlt => hk.block k hlt fun hm => by
    have := hv k (by simpa using hm)
    omega
  have hr := (Array.getElem?_eq_some_iff.1 h.rbk).1
  have hc := (Array.getElem?_eq_some_iff.1 h.cbk).1
  refine ⟨h.tp.frame hk.size fun k hk2 => hnot k (by omega) (by omega), (hnot rb (by omega) hr).trans h.rbk, (hnot cb (Nat.le_refl _) hc).trans h.cbk, h.kp.then hk fun k hk2 => .inr ?_, h.lo⟩
  have := hv k (by simpa using hk2)
  omega
end
theorem TS.oth {w W : World} {M tb : Nat} {full : Row} {s : St} {rb cb : Nat} {ty : TypeId} {rc cc : Array Value} (h : TS w M tb full s rb cb ty rc cc W) {g : Nat} (hg : cb < g) (j : Nat) (v : Value) : TS w M tb full s rb cb ty rc cc (W.setCell ⟨g, j, none⟩ v) := by
  obtain ⟨l1, l2, l3, l4⟩ := h.lo
  exact ⟨h.tp.frame (by simp) fun k hk => Below.heap_setCell _ _ _ k (by show k ≠ g; omega), (Below.heap_setCell _ _ _ rb (by show rb ≠ g; omega)).trans h.rbk, (Below.heap_setCell _ _ _ cb (by show cb ≠ g; omega)).trans h.cbk, h.kp.setCell (.inr (by show w.heap.size ≤ g; omega)) _, h.lo⟩
/-- beside it an element's struct at block eb, and the row that it will go into -/
structure TE (w : World) (M tb : Nat) (full : Row) (s : St) (rb cb : Nat) (ty : TypeId) (rc cc : Array Value) (eb : Nat) (ety : TypeId) (ec : Array Value) (size : Nat) (v : Value) (n : Nat) (xs : List Value) (W : World) : Prop where
  ts : TS w M tb full s rb cb ty rc cc W
  ebk : W.heap[eb]? = some (.cells ec ety (0, 0))
  own : W.ownsRow (cb + 1) ety size v n xs
  lo2 : cb < eb ∧ ∀ g, v.ownBlock = some g → g < eb
section
variable {w W W' : World} {M tb : Nat} {full : Row} {s s' : St} {rb cb : Nat} {ty : TypeId} {rc cc : Array Value} {eb : Nat} {ety : TypeId} {ec : Array Value} {size : Nat} {v : Value} {n : Nat} {xs : List Value}
theorem TE.call (h : TE w M tb full s rb cb ty rc cc eb ety ec size v n xs W) (ht : TpIs W' M tb full s') (hk : Kp [tb] W W') : TE w M tb full s' rb cb ty rc cc eb ety ec size v n xs W' := by
  obtain ⟨l1, l2, l3, l4⟩ := h.ts.lo
  obtain ⟨m1, m2⟩ := h.lo2
  refine ⟨h.ts.call ht hk, (hk.block eb (Array.getElem?_eq_some_iff.1 h.ebk).1 (by simp; omega)).trans h.ebk, ownsRow_heap h.own fun g hg => hk.block g (World.ownsRow.lt h.own g hg).2 ?_, h.lo2⟩
  have := (World.ownsRow.lt h.own g hg).1
  simp; omega
theorem TE.set (h : TE w M tb full s rb cb ty rc cc eb ety ec size v n xs W) (j : Nat) (u : Value) {ec' : Array Value} (hc : ec.setIfInBounds j u = ec') : TE w M tb full s rb cb ty rc cc eb ety ec' size v n xs (W.setCell ⟨eb, j, none⟩ u) := by
  obtain ⟨m1, m2⟩ := h.lo2
  refine ⟨h.ts.oth m1 j u, ?_, ownsRow_heap h.own fun g hg => Below.heap_setCell _ _ _ g (by have := m2 g hg; show g ≠ eb; omega), h.lo2⟩
  rw [← hc]
  simp [World.setCell, Array.getElem?_modify, h.ebk]
theorem TE.cell (h : TE w M tb full s rb cb ty rc cc eb ety ec size v n xs W) (j : Nat) : W.cell? ⟨eb, j, none⟩ = ec[j]? := Lib.cell_of_heap h.ebk j
theorem TE.froz (h : TE w M tb full s rb cb ty rc cc eb ety ec size v n xs W) (j : Nat) : W.frozen? ⟨eb, j, none⟩ = false := Lib.frozen_of_heap h.ebk j
theorem TE.make (h : TS w M tb full s rb cb ty rc cc W) (ho : W.ownsRow (cb + 1) ety size v n xs) (ec : Array Value) : TE w M tb full s rb cb ty rc cc W.heap.size ety ec size v n xs (W.alloc (.cells ec ety)) := by
  have hb : Below W.heap.size W (W.alloc (.cells ec ety)) := (Below.refl _ _).alloc (Nat.le_refl _) _
  exact ⟨h.below hb, heap_alloc_new W _, ownsRow_heap ho fun g hg => hb.block g (World.ownsRow.lt ho g hg).2, (Array.getElem?_eq_some_iff.1 h.cbk).1, fun g hg => (World.ownsRow.lt ho g hg).2⟩
end
/-- a struct stored cell by cell -/
def setAll (W : World) (g : Nat) : Nat → List Value → World
  | _, [] => W
  | j, v :: vs => setAll (W.setCell ⟨g, j, none⟩ v) g (j + 1) vs
def setArr (cs : Array Value) : Nat → List Value → Array Value
  | _, [] => cs
  | j, v :: vs => setArr (cs.setIfInBounds j v) (j + 1) vs
theorem setAll_heap {g : Nat} {t : TypeId} : ∀ (vs : List Value) (W : World) (cs : Array Value) (j : Nat), W.heap[g]? = some (.cells cs t (0, 0)) → (setAll W g j vs).heap[g]? = some (.cells (setArr cs j vs) t (0, 0))
  | [], W, cs, j, h => h
  | v :: vs, W, cs, j, h => setAll_heap vs _ _ _ (by simp [World.setCell, Array.getElem?_modify, h])
theorem setAll_other {g k : Nat} (hk : k ≠ g) : ∀ (vs : List Value) (W : World) (j : Nat), (setAll W g j vs).heap[k]? = W.heap[k]?
  | [], W, j => rfl
  | v :: vs, W, j => (setAll_other hk vs _ _).trans (Below.heap_setCell _ _ _ k hk)
theorem setAll_size {g : Nat} : ∀ (vs : List Value) (W : World) (j : Nat), (setAll W g j vs).heap.size = W.heap.size
  | [], W, j => rfl
  | v :: vs, W, j => (setAll_size vs _ _).trans (by simp)
theorem setAll_kp {F : List Nat} {a : World} {g : Nat} (hg : a.heap.size ≤ g) : ∀ (vs : List Value) (W : World) (j : Nat), Kp F a W → Kp F a (setAll W g j vs)
  | [], W, j, h => h
  | v :: vs, W, j, h => setAll_kp hg vs _ _ (h.setCell (ad := ⟨g, j, none⟩) (.inr hg) v)
theorem setArr_list : ∀ (vs : List Value) (cs : Array Value) (j : Nat), j + vs.length = cs.size → (setArr cs j vs).toList = cs.toList.take j ++ vs
  | [], cs, j, h => by
    show cs.toList = _
    rw [List.append_nil, List.take_of_length_le (by rw [Array.length_toList]; simp at h; omega)]
  | v :: vs, cs, j, h => by
    have hj : j < cs.toList.length := by rw [Array.length_toList]; simp at h; omega
    show (setArr (cs.setIfInBounds j v) (j + 1) vs).toList = _
    rw [setArr_list vs _ _ (by rw [Array.size_setIfInBounds]; simp at h; omega), Array.toList_setIfInBounds, List.take_succ_eq_append_getElem (by rw [List.length_set]; exact hj), List.getElem_set_self, List.take_set_of_le (Nat.le_refl _), List.append_assoc]
    rfl
theorem setArr_all {vs : List Value} {cs : Array Value} (h : vs.length = cs.size) : setArr cs 0 vs = vs.toArray := by
  apply Array.toList_inj.1
  rw [setArr_list vs cs 0 (by omega)]
  simp
theorem TS.fin {w W : World} {M tb : Nat} {full : Row} {s : St} {rb cb : Nat} {ty : TypeId} {rc cc : Array Value} (h : TS w M tb full s rb cb ty rc cc W) (vs : List Value) (hv : vs.length = rc.size) : (setAll W rb 0 vs).heap[rb]? = some (.cells vs.toArray ty (0, 0)) ∧ TpIs (setAll W rb 0 vs) M tb full s ∧ Kp [tb] w (setAll W rb 0 vs) := by
  obtain ⟨l1, l2, l3, l4⟩ := h.lo
  refine ⟨by rw [← setArr_all hv]; exact setAll_heap vs W rc 0 h.rbk, h.tp.frame (Nat.le_of_eq (setAll_size vs W 0).symm) fun k hk => setAll_other (by omega) vs W 0, setAll_kp l3 vs W 0 h.kp⟩
theorem wrap_toI {n : Nat} (h : n < 18446744073709551616) : IntKind.i64.wrap (n : Int) = toI n := by
  rw [IntKind.wrap_i64]
  unfold toI
  split <;> omega
theorem lst_step {α : Type} (get : St → α × St) (n : Nat) (y : Row × Bool) : lstS get (n + 1) (some y) = ((get (some y)).1 :: (lstS get n (get (some y)).2).1, (lstS get n (get (some y)).2).2) := rfl
/-- a list that is being read: acc is there, n more are to come -/
def Going {α : Type} (get : St → α × St) (goal : List α × St) (acc : List α) (n : Nat) (s : St) : Prop := goal = (acc ++ (lstS get n s).1, (lstS get n s).2)
theorem Going.start {α : Type} (get : St → α × St) (n : Nat) (s : St) : Going get (lstS get n s) [] n s := rfl
theorem Going.step {α : Type} {get : St → α × St} {goal : List α × St} {acc : List α} {n : Nat} {y : Row × Bool} (h : Going get goal acc (n + 1) (some y)) : Going get goal (acc ++ [(get (some y)).1]) n (get (some y)).2 := by
  unfold Going at h ⊢
  rw [h, lst_step]
  simp
theorem Going.fin {α : Type} {get : St → α × St} {goal : List α × St} {acc : List α} {s : St} (h : Going get goal acc 0 s) : goal = (acc, s) := by
  unfold Going at h
  rw [h]
  show (acc ++ [], s) = _
  rw [List.append_nil]
theorem Going.gone {α : Type} {get : St → α × St} {goal : List α × St} {acc : List α} {n : Nat} (h : Going get goal acc n none) : goal = (acc, none) := by
  unfold Going at h
  rw [h, lst_none]
  simp
end Go.Proofs.Ytpngbfmbjldieaa.Cd
