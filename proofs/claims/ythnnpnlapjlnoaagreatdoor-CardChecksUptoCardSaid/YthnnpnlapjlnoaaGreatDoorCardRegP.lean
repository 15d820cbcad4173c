/-
  THE REGION 'own.Lines = append(own.Lines, Copy(l))' (CardChecks), which draws its order: by an invariant (RegInv), operation by operation.
-/
import Derived.Test.YthnnpnlapjlnoaaGreatDoorRegRow
import Derived.Test.YthnnpnlapjlnoaaGreatDoorCardLineStep
set_option linter.unusedVariables false
namespace Go.Proofs.YthnnpnlapjlnoaaGreatDoor.RgC
open Go.Lib Go.RowKit Rg Ca
open Li (LD PD sv POwn LOwn LineAt PrmsAt)

def slots8 : List Nat := [29, 30, 31, 32, 33, 34, 35]
/-- what holds while the region's operations come up; X: whatever else is kept -/
structure N8 (w0 w4 : World) (X : World → Prop) (db : Nat) (ov : Value) (Ms : List LD) (L : LD) (a1 a2 a4 : ByteArray) (pv : Value) (g32 : Nat) (qv rv : Value) (d : Nat → Bool) (u : Nat → Value) (W : World) : Prop where
  bel : Below w4.heap.size w4 W
  dbw : w4.heap.size ≤ db ∧ db < W.heap.size
  siz : w0.heap.size ≤ W.heap.size
  x : X W
  c4 : d 4 = true → d 3 = true
  c5 : d 5 = true → d 4 = true
  c5b : d 5 = true → d 1 = true
  c7 : d 7 = true → d 5 = true
  f0 : d 0 = true → u 29 = .pointer (some ⟨db, 0, none⟩)
  f1 : d 1 = true → u 30 = ov
  f2 : d 2 = true → u 31 = .agg #[.string a1, .string a2, pv, .string a4]
  f3 : d 3 = true → d 5 = false → u 32 = .agg #[.string a1, .string a2, qv, .string a4] ∧ POwn (db + 1) qv L.params W ∧ ∃ ao n c, qv = .slice ao n c
  f4 : d 4 = true → d 5 = false → u 33 = .slice (some ⟨g32, 0, none⟩) 1 1 ∧ W.heap[g32]? = some (.cells #[.string a1, .string a2, qv, .string a4] 41 (0, 0))
  f5 : d 5 = true → u 34 = rv
  f6 : d 6 = true → u 35 = .pointer (some ⟨db, 0, none⟩)
  r0 : d 5 = false → rv = ov
  row : LsOwn (db + 1) rv (bif d 5 then Ms ++ [L] else Ms) W
  own : ∀ g, rv.ownBlock = some g → ov.ownBlock = some g ∨ w0.heap.size ≤ g
  box : W.heap[db]? = some (.cells #[bif d 7 then rv else ov] 25 (0, 0))
def I8 (w0 w4 : World) (X : World → Prop) (db : Nat) (ov : Value) (Ms : List LD) (L : LD) (a1 a2 a4 : ByteArray) (pv : Value) (d : Nat → Bool) (u : Nat → Value) (W : World) : Prop := ∃ g32 qv rv, N8 w0 w4 X db ov Ms L a1 a2 a4 pv g32 qv rv d u W

section
variable {Q : Exit → Act → World → Prop} {a : Act} {w0 w4 : World} {X : World → Prop} {db : Nat} {ov : Value} {Ms : List LD} {L : LD} {a1 a2 a4 : ByteArray} {pv : Value} {g32 : Nat} {qv rv : Value} {d : Nat → Bool} {u : Nat → Value} {W : World}
theorem N8.kept (hX : ∀ W W', X W → Below W.heap.size W W' → X W') (h : N8 w0 w4 X db ov Ms L a1 a2 a4 pv g32 qv rv d u W) {W' : World} (hb : Below W.heap.size W W') : N8 w0 w4 X db ov Ms L a1 a2 a4 pv g32 qv rv d u W' :=
  { h with
    bel := belowThen h.bel hb
    dbw := ⟨h.dbw.1, Nat.lt_of_lt_of_le h.dbw.2 hb.size⟩
    siz := Nat.le_trans h.siz hb.size
    x := hX _ _ h.x hb
    f3 := fun h1 h2 => have k := h.f3 h1 h2; ⟨k.1, k.2.1.kept hb, k.2.2⟩
    f4 := fun h1 h2 => have k := h.f4 h1 h2; ⟨k.1, Li.blk_below hb k.2⟩
    row := h.row.kept hb
    box := Li.blk_below hb h.box }
theorem N8.start (hb : Below w4.heap.size w4 W) (hdb : w4.heap.size ≤ db) (hs : w0.heap.size ≤ W.heap.size) (hx : X W) (hr : LsOwn (db + 1) ov Ms W) (hk : W.heap[db]? = some (.cells #[ov] 25 (0, 0))) : N8 w0 w4 X db ov Ms L a1 a2 a4 pv g32 qv ov (fun _ => false) u W :=
  ⟨hb, ⟨hdb, (Array.getElem?_eq_some_iff.1 hk).1⟩, hs, hx, nofun, nofun, nofun, nofun, nofun, nofun, nofun, nofun, nofun, nofun, nofun, fun _ => rfl, hr, fun g h => .inl h, hk⟩
set_option maxRecDepth 100000 in
theorem st0 {o : Oper} (hg : o.guard = none) (hds : o.dst = some 29) (hop : o.op = .fieldAddr 25 (.tmp 3) 0) (h5 : a.eval (.tmp 3) = .pointer (some ⟨db, 0, none⟩)) : StepAt Tryz.prog Q a slots8 (I8 w0 w4 X db ov Ms L a1 a2 a4 pv) 0 o := by
  refine ⟨⟨hg, by rw [hds]; decide⟩, ?_⟩
  rintro d u W ⟨g32, qv, rv, h⟩ hd hdep K hK
  rw [hds] at hK
  have e2 := eval_old (u := u) (slots := slots8) (by decide) h5
  refine wp_yields (w' := W) hds (.pointer (some ⟨db, 0, none⟩)) ?_ (hK _ _ ⟨g32, qv, rv, { h with f0 := fun _ => rfl }⟩)
  clear hK hdep h hd
  simp only [execOp, hop, e2]
  go_simp
theorem N8.no5 (h : N8 w0 w4 X db ov Ms L a1 a2 a4 pv g32 qv rv d u W) (h1 : d 1 = false) : d 5 = false ∧ d 7 = false := by
  have h5 : d 5 = false := by
    cases h5 : d 5 with
    | false => rfl
    | true => have := h.c5b h5; rw [h1] at this; cases this
  refine ⟨h5, ?_⟩
  cases h7 : d 7 with
  | false => rfl
  | true => have := h.c7 h7; rw [h5] at this; cases this
theorem N8.no5' (h : N8 w0 w4 X db ov Ms L a1 a2 a4 pv g32 qv rv d u W) (h4 : d 4 = false) : d 5 = false := by
  cases h5 : d 5 with
  | false => rfl
  | true => have := h.c5 h5; rw [h4] at this; cases this
set_option maxRecDepth 100000 in
theorem st1 {o : Oper} (hg : o.guard = none) (hds : o.dst = some 30) (hop : o.op = .load 23 (.tmp 29)) (hs : 35 < a.tmps.size) (hda : 0 ∈ deps o) : StepAt Tryz.prog Q a slots8 (I8 w0 w4 X db ov Ms L a1 a2 a4 pv) 1 o := by
  refine ⟨⟨hg, by rw [hds]; decide⟩, ?_⟩
  rintro d u W ⟨g32, qv, rv, h⟩ hd hdep K hK
  rw [hds] at hK
  have e2 := eval_new (a := a) (u := u) (slots := slots8) (t := 29) (by decide) (by decide) (by omega)
  rw [h.f0 (hdep 0 hda)] at e2
  obtain ⟨h5, h7⟩ := h.no5 hd
  obtain ⟨ao, cc, hf⟩ := h.row.form
  rw [h.r0 h5] at hf
  have hbx := h.box
  rw [h7] at hbx
  have hc : W.cell? ⟨db, 0, none⟩ = some ov := (Lib.cell_of_heap hbx 0).trans rfl
  refine wp_yields (w' := W) hds ov ?_ (hK _ _ ⟨g32, qv, rv, { h with c5b := fun _ => rfl, f1 := fun _ => rfl }⟩)
  rw [hf] at hc ⊢
  clear hK hdep h hd hbx
  simp only [execOp, hop, e2]
  go_simp
set_option maxRecDepth 100000 in
theorem st2 {o : Oper} (hg : o.guard = none) (hds : o.dst = some 31) (hop : o.op = .load 41 (.tmp 5)) (bl : Nat) (hX : ∀ W, X W → W.heap[bl]? = some (.cells #[.string a1, .string a2, pv, .string a4] 41 (0, 0))) (hpv : ∃ ao n c, pv = .slice ao n c) (h8 : a.eval (.tmp 5) = .pointer (some ⟨bl, 0, none⟩)) : StepAt Tryz.prog Q a slots8 (I8 w0 w4 X db ov Ms L a1 a2 a4 pv) 2 o := by
  refine ⟨⟨hg, by rw [hds]; decide⟩, ?_⟩
  rintro d u W ⟨g32, qv, rv, h⟩ hd hdep K hK
  rw [hds] at hK
  have e2 := eval_old (u := u) (slots := slots8) (by decide) h8
  obtain ⟨x0, x1, x2, x3, _, _, _, _⟩ := Li.res4 (hX W h.x)
  refine wp_yields (w' := W) hds (.agg #[.string a1, .string a2, pv, .string a4]) ?_ (hK _ _ ⟨g32, qv, rv, { h with f2 := fun _ => rfl }⟩)
  clear hK hdep h hd
  obtain ⟨ao, pn, pc, rfl⟩ := hpv
  simp only [execOp, hop, e2]
  go_simp
set_option maxRecDepth 100000 in
theorem st3 {o : Oper} (hg : o.guard = none) (hds : o.dst = some 32) (hop : o.op = .call { callee := .value (.func 17), args := #[.tmp 31], argTypes := #[41] }) (hs : 35 < a.tmps.size) (hda : 2 ∈ deps o) (hX : ∀ W W', X W → Below W.heap.size W W' → X W')
    (cC : ∀ W, Below w4.heap.size w4 W → Calls Tryz.prog 17 #[.agg #[.string a1, .string a2, pv, .string a4]] W fun e w' => (∃ qv, e = .returned (.agg #[.string a1, .string a2, qv, .string a4]) ∧ POwn W.heap.size qv L.params w') ∧ Below W.heap.size W w') : StepAt Tryz.prog Q a slots8 (I8 w0 w4 X db ov Ms L a1 a2 a4 pv) 3 o := by
  refine ⟨⟨hg, by rw [hds]; decide⟩, ?_⟩
  rintro d u W ⟨g32, qv, rv, h⟩ hd hdep K hK
  rw [hds] at hK
  have e2 := eval_new (a := a) (u := u) (slots := slots8) (t := 31) (by decide) (by decide) (by omega)
  rw [h.f2 (hdep 2 hda)] at e2
  refine wp_calls hds 17 #[.agg #[.string a1, .string a2, pv, .string a4]] ?_ ((cC W h.bel).mono ?_)
  · clear hK hdep h hd cC
    have e3 : (puts a slots8 u).tmps[(31 : Nat)]?.getD undef = .agg #[.string a1, .string a2, pv, .string a4] := by simpa [Act.eval] using e2
    clear e2
    simp only [execOp, hop]
    go_simp
  · rintro e w' ⟨⟨qv', rfl, hq⟩, hb⟩
    have h' := h.kept hX hb
    have h4 : d 4 = false := by
      cases h4 : d 4 with
      | false => rfl
      | true => have := h.c4 h4; rw [hd] at this; cases this
    refine ⟨_, rfl, hK _ _ ⟨g32, qv', rv, { h' with c4 := fun _ => rfl, f3 := fun _ _ => ⟨rfl, hq.less (by have := h.dbw.2; omega), ?_⟩, f4 := fun q => ?_ }⟩⟩
    · obtain ⟨A, c, e⟩ := hq.form
      exact ⟨A, _, c, e⟩
    · rw [show d 4 = true from q] at h4; cases h4
set_option maxRecDepth 100000 in
theorem st4 {o : Oper} (hg : o.guard = none) (hds : o.dst = some 33) (hop : o.op = .buildSlice 23 1 #[(0, .tmp 32)]) (hs : 35 < a.tmps.size) (hda : 3 ∈ deps o) (hX : ∀ W W', X W → Below W.heap.size W W' → X W') : StepAt Tryz.prog Q a slots8 (I8 w0 w4 X db ov Ms L a1 a2 a4 pv) 4 o := by
  refine ⟨⟨hg, by rw [hds]; decide⟩, ?_⟩
  rintro d u W ⟨g32, qv, rv, h⟩ hd hdep K hK
  rw [hds] at hK
  have h5 := h.no5' hd
  obtain ⟨k1, k2, k3⟩ := h.f3 (hdep 3 hda) h5
  have e2 := eval_new (a := a) (u := u) (slots := slots8) (t := 32) (by decide) (by decide) (by omega)
  rw [k1] at e2
  obtain ⟨ob, hob⟩ : ∃ ob, (Obj.cells #[.string a1, .string a2, qv, .string a4] 41 (0, 0) : Obj) = ob := ⟨_, rfl⟩
  have hb : Below W.heap.size W (W.alloc ob) := (Below.refl _ _).alloc (Nat.le_refl _) _
  have h' := h.kept hX hb
  refine wp_yields (w' := W.alloc ob) hds (.slice (some ⟨W.heap.size, 0, none⟩) 1 1) ?_ (hK _ _ ⟨W.heap.size, qv, rv, { h' with c4 := fun _ => hdep 3 hda, c5 := fun _ => rfl, f4 := fun _ _ => ⟨rfl, ?_⟩ }⟩)
  · subst hob
    clear hK hdep h hd h' k2
    obtain ⟨ao, pn, pc, rfl⟩ := k3
    simp only [execOp, hop, List.map_toArray, List.map_cons, List.map_nil, e2]
    go_simp
  · rw [heap_alloc_new W ob, hob]
set_option maxRecDepth 100000 in
theorem st5 {o : Oper} (hg : o.guard = none) (hds : o.dst = some 34) (hop : o.op = .call { callee := .builtin .append, args := #[.tmp 30, .tmp 33], argTypes := #[23, 23] }) (hs : 35 < a.tmps.size) (hda : 1 ∈ deps o) (hdb : 4 ∈ deps o) (h1 : sv L.group = .string a1) (h2 : sv L.name = .string a2) (h4 : sv L.value = .string a4) (hN : Ms.length ≤ 1099511627776)
    (hX : ∀ W W', X W → w0.heap.size ≤ W.heap.size → W.grownBy W' ov.ownBlock → Ca.Left W (db + 1) W' → X W') : StepAt Tryz.prog Q a slots8 (I8 w0 w4 X db ov Ms L a1 a2 a4 pv) 5 o := by
  refine ⟨⟨hg, by rw [hds]; decide⟩, ?_⟩
  rintro d u W ⟨g32, qv, rv, h⟩ hd hdep K hK
  rw [hds] at hK
  have er := h.r0 hd
  subst er
  obtain ⟨k1, k2, k3⟩ := h.f3 (h.c4 (hdep 4 hdb)) hd
  obtain ⟨q1, q2⟩ := h.f4 (hdep 4 hdb) hd
  have e1 := eval_new (a := a) (u := u) (slots := slots8) (t := 30) (by decide) (by decide) (by omega)
  have e2 := eval_new (a := a) (u := u) (slots := slots8) (t := 33) (by decide) (by decide) (by omega)
  rw [h.f1 (hdep 1 hda)] at e1
  rw [q1] at e2
  have hrow := h.row
  rw [hd] at hrow
  have h7 : d 7 = false := by
    cases h7 : d 7 with
    | false => rfl
    | true => have := h.c7 h7; rw [hd] at this; cases this
  have hbx := h.box
  rw [h7] at hbx
  refine line_op L a1 a2 a4 qv h1 h2 h4 k3 hg hds _ _ hop (db + 1) rv Ms g32 e1 e2 q2 hrow k2 hN (by have := h.dbw.2; omega) (fun v' w' hm hl hgr ho => hK _ _ ⟨g32, qv, v', { h with bel := ?_, dbw := ⟨h.dbw.1, Nat.lt_of_lt_of_le h.dbw.2 hgr.size⟩, siz := Nat.le_trans h.siz hgr.size, x := hX _ _ h.x h.siz hgr hl, c5 := fun _ => hdep 4 hdb, c5b := fun _ => hdep 1 hda, c7 := fun _ => rfl, f3 := fun _ q => Bool.noConfusion (show true = false from q), f4 := fun _ q => Bool.noConfusion (show true = false from q), f5 := fun _ => rfl, r0 := fun q => Bool.noConfusion (show true = false from q), row := hm, own := fun g e => ?_, box := ?_ }⟩)
  · exact hl _ _ h.bel (by have := h.dbw.1; omega) h.bel.size
  · rcases ho g e with q | q
    · exact .inl q
    · exact .inr (by rw [q]; exact h.siz)
  · show w'.heap[db]? = some (Obj.cells #[bif d 7 then _ else _] _ _)
    rw [h7]
    refine Li.blk_grown hbx hgr (fun g e q => ?_)
    obtain ⟨vs, _, hr, _⟩ := hrow
    have := (hr.lt g e).1
    omega
set_option maxRecDepth 100000 in
theorem st6 {o : Oper} (hg : o.guard = none) (hds : o.dst = some 35) (hop : o.op = .fieldAddr 25 (.tmp 3) 0) (h5 : a.eval (.tmp 3) = .pointer (some ⟨db, 0, none⟩)) : StepAt Tryz.prog Q a slots8 (I8 w0 w4 X db ov Ms L a1 a2 a4 pv) 6 o := by
  refine ⟨⟨hg, by rw [hds]; decide⟩, ?_⟩
  rintro d u W ⟨g32, qv, rv, h⟩ hd hdep K hK
  rw [hds] at hK
  have e2 := eval_old (u := u) (slots := slots8) (by decide) h5
  refine wp_yields (w' := W) hds (.pointer (some ⟨db, 0, none⟩)) ?_ (hK _ _ ⟨g32, qv, rv, { h with f6 := fun _ => rfl }⟩)
  clear hK hdep h hd
  simp only [execOp, hop, e2]
  go_simp
set_option maxRecDepth 100000 in
theorem st7 {o : Oper} (hg : o.guard = none) (hds : o.dst = none) (hop : o.op = .store 23 (.tmp 35) (.tmp 34)) (hs : 35 < a.tmps.size) (hda : 5 ∈ deps o) (hdb : 6 ∈ deps o) (hX : ∀ W v, X W → X (W.setCell ⟨db, 0, none⟩ v)) : StepAt Tryz.prog Q a slots8 (I8 w0 w4 X db ov Ms L a1 a2 a4 pv) 7 o := by
  refine ⟨⟨hg, by rw [hds]; decide⟩, ?_⟩
  rintro d u W ⟨g32, qv, rv, h⟩ hd hdep K hK
  rw [hds] at hK
  have d5 := hdep 5 hda
  have e1 := eval_new (a := a) (u := u) (slots := slots8) (t := 35) (by decide) (by decide) (by omega)
  have e2 := eval_new (a := a) (u := u) (slots := slots8) (t := 34) (by decide) (by decide) (by omega)
  rw [h.f6 (hdep 6 hdb)] at e1
  rw [h.f5 d5] at e2
  have hbx := h.box
  rw [hd] at hbx
  have hbx : W.heap[db]? = some (.cells #[ov] 25 (0, 0)) := hbx
  obtain ⟨ao, cc, hf⟩ := h.row.form
  refine wp_skips (w' := W.setCell ⟨db, 0, none⟩ rv) hds ?_ (hK undef _ ⟨g32, qv, rv, { h with bel := h.bel.setCell (p := ⟨db, 0, none⟩) h.dbw.1 _, dbw := ⟨h.dbw.1, by simpa [World.setCell] using h.dbw.2⟩, siz := by simpa [World.setCell] using h.siz, x := hX _ _ h.x, c7 := fun _ => d5, f3 := fun _ q => absurd d5 (by rw [show d 5 = false from q]; decide), f4 := fun _ q => absurd d5 (by rw [show d 5 = false from q]; decide), row := h.row.stored (a := ⟨db, 0, none⟩) (by show db < db + 1; omega) _, box := ?_ }⟩)
  · have f9 : W.frozen? ⟨db, 0, none⟩ = false := Lib.frozen_of_heap hbx 0
    have d9 : W.cell? ⟨db, 0, none⟩ = some ov := (Lib.cell_of_heap hbx 0).trans rfl
    clear hK hdep h hd hbx
    rw [hf] at e2 ⊢
    simp only [execOp, hop, e1, e2]
    go_simp
  · show (W.setCell ⟨db, 0, none⟩ rv).heap[db]? = some (Obj.cells #[rv] _ _)
    simp [World.setCell, Array.getElem?_modify, hbx]
end
end Go.Proofs.YthnnpnlapjlnoaaGreatDoor.RgC
