/-
  THE LAW CardNeeds' REGION THAT DRAWS ITS ORDER: by an invariant (RegInv), operation by operation.
-/
import Derived.Test.YthnnpnlapjlnoaaGreatDoorCardRegD
set_option linter.unusedVariables false
namespace Go.Proofs.YthnnpnlapjlnoaaGreatDoor.Ca
open Go.Lib Go.RowKit Rg
open Li (LD PD sv LineAt PrmsAt)

section
variable {Q : Exit → Act → World → Prop} {a : Act} {q : Row} {bx b off n c : Nat} {z : Int} {r : Nat} {Ls : List LD} {w9 : World}

set_option maxRecDepth 100000 in
theorem st0 {o : Oper} (hg : o.guard = none) (hds : o.dst = some 66) (hop : o.op = .buildSlice 23 0 #[]) (hs : 80 ≤ a.tmps.size) : StepAt Tryz.prog Q a slots15 (I15 q bx b off n c z r Ls w9) 0 o := by
  refine ⟨⟨hg, by rw [hds]; decide⟩, ?_⟩
  rintro d u W ⟨g70, g77, g11, rv, h⟩ hd hdep K hK
  rw [hds] at hK
  have hb : Below W.heap.size W (W.alloc (.cells #[] 41)) := (Below.refl _ _).alloc (Nat.le_refl _) _
  have h' := h.kept hb
  refine wp_yields (w' := W.alloc (.cells #[] 41)) hds (.slice (some ⟨W.heap.size, 0, none⟩) 0 0) ?_ (hK _ _ ⟨g70, g77, g11, .slice (some ⟨W.heap.size, 0, none⟩) 0 0, { h' with c3 := fun _ => rfl, m4 := fun h1 h2 => ?_, f11 := fun h1 h2 => ?_, f0 := fun _ _ => ⟨rfl, ?_⟩, f3 := fun h1 => ?_, f12 := fun h1 => ?_, f13 := fun h1 => ?_, f14 := fun h1 => ?_ }⟩)
  · clear hK hdep h hd h'
    simp only [execOp, hop]
    go_simp
  · have k := h'.m4 h1 h2
    have hlt := (Array.getElem?_eq_some_iff.1 (h.m4 h1 h2).2.1).1
    exact ⟨k.1, k.2.1, fun _ e => by simp [Value.ownBlock] at e; omega⟩
  · have k := h'.f11 h1 h2
    have hlt := (Array.getElem?_eq_some_iff.1 (h.f11 h1 h2).2.2.1).1
    exact ⟨k.1, k.2.1, k.2.2.1, fun _ e => by simp [Value.ownBlock] at e; omega⟩
  · exact Mix.made h.bel (Nat.le_refl _) h.bel.size
  · have := h.c3 h1; rw [hd] at this; cases this
  · have := h.c3 (h.c12 h1).1; rw [hd] at this; cases this
  · have := h.c3 (h.c12 (h.c13 h1)).1; rw [hd] at this; cases this
  · have k := h'.f14 h1
    have hlt := (Array.getElem?_eq_some_iff.1 (h.f14 h1).2.2.1).1
    refine ⟨k.1, k.2.1, ?_, fun _ e => by simp [Value.ownBlock] at e; omega⟩
    have h15 : d 15 = false := by
      cases h5 : d 15 with
      | false => rfl
      | true => have := h.c3 (h.c12 (h.c13 (h.c15 h5))).1; rw [hd] at this; cases this
    have k3 := k.2.2.1
    rw [h15] at k3
    show _ = some (Obj.cells #[bif d 15 then _ else _] _ _)
    rw [h15]; exact k3
set_option maxRecDepth 100000 in
theorem st1 {o : Oper} (hg : o.guard = none) (hds : o.dst = some 67) (hop : o.op = .fieldAddr 25 (.tmp 2) 0) (hs : 80 ≤ a.tmps.size) (h2 : a.eval (.tmp 2) = .pointer (some ⟨bx, 0, none⟩)) : StepAt Tryz.prog Q a slots15 (I15 q bx b off n c z r Ls w9) 1 o := by
  refine ⟨⟨hg, by rw [hds]; decide⟩, ?_⟩
  rintro d u W ⟨g70, g77, g11, rv, h⟩ hd hdep K hK
  rw [hds] at hK
  have e2 := eval_old (u := u) (slots := slots15) (by decide) h2
  refine wp_yields (w' := W) hds (.pointer (some ⟨bx, 0, none⟩)) ?_ (hK _ _ ⟨g70, g77, g11, rv, { h with f1 := fun _ => rfl }⟩)
  clear hK hdep h hd
  simp only [execOp, hop, e2]
  go_simp
set_option maxRecDepth 100000 in
theorem st2 {o : Oper} (hg : o.guard = none) (hds : o.dst = some 68) (hop : o.op = .load 23 (.tmp 67)) (hs : 80 ≤ a.tmps.size) (hbx : w9.cell? ⟨bx, 0, none⟩ = some (.slice (some ⟨b, off, none⟩) n c)) (hlt : bx < w9.heap.size) (hda : 1 ∈ deps o) :
    StepAt Tryz.prog Q a slots15 (I15 q bx b off n c z r Ls w9) 2 o := by
  refine ⟨⟨hg, by rw [hds]; decide⟩, ?_⟩
  rintro d u W ⟨g70, g77, g11, rv, h⟩ hd hdep K hK
  rw [hds] at hK
  have e2 := eval_new (a := a) (u := u) (slots := slots15) (t := 67) (by decide) (by decide) (by omega)
  rw [h.f1 (hdep 1 hda)] at e2
  have hc : W.cell? ⟨bx, 0, none⟩ = some (.slice (some ⟨b, off, none⟩) n c) := (h.bel.cell (p := ⟨bx, 0, none⟩) hlt).trans hbx
  refine wp_yields (w' := W) hds (.slice (some ⟨b, off, none⟩) n c) ?_ (hK _ _ ⟨g70, g77, g11, rv, { h with f2 := fun _ => rfl }⟩)
  clear hK hdep h hd
  simp only [execOp, hop, e2]
  go_simp
set_option maxRecDepth 100000 in
theorem st4 {o : Oper} (hg : o.guard = none) (hds : o.dst = some 70) (hop : o.op = .buildSlice 45 3 #[(0, .const (.string ⟨#[66, 69, 71, 73, 78]⟩)), (1, .const (.string ⟨#[101, 110, 100]⟩)), (2, .const (.string ⟨#[86, 101, 114, 115, 105, 111, 110]⟩))]) (hs : 80 ≤ a.tmps.size) : StepAt Tryz.prog Q a slots15 (I15 q bx b off n c z r Ls w9) 4 o := by
  refine ⟨⟨hg, by rw [hds]; decide⟩, ?_⟩
  rintro d u W ⟨g70, g77, g11, rv, h⟩ hd hdep K hK
  rw [hds] at hK
  obtain ⟨ob, hob⟩ : ∃ ob, (Obj.cells #[.string ⟨#[66, 69, 71, 73, 78]⟩, .string ⟨#[101, 110, 100]⟩, .string ⟨#[86, 101, 114, 115, 105, 111, 110]⟩] 9 (0, 0) : Obj) = ob := ⟨_, rfl⟩
  have hb : Below W.heap.size W (W.alloc ob) := (Below.refl _ _).alloc (Nat.le_refl _) _
  have h' := h.kept hb
  refine wp_yields (w' := W.alloc ob) hds (.slice (some ⟨W.heap.size, 0, none⟩) 3 3) ?_ (hK _ _ ⟨W.heap.size, g77, g11, rv, { h' with c8 := fun _ => rfl, f4 := fun _ => rfl, m4 := fun _ h9 => ⟨h.bel.size, ?_, fun h0 e => ?_⟩, f8 := fun h8 => ?_ }⟩)
  · subst hob
    clear hK hdep h hd h'
    simp only [execOp, hop]
    go_simp
  · rw [heap_alloc_new W ob, hob]
  · have := h.row h0 _ e
    omega
  · have := h.c8 h8; rw [hd] at this; cases this
set_option maxRecDepth 100000 in
theorem st5 {o : Oper} (hg : o.guard = none) (hds : o.dst = some 71) (hop : o.op = .move (.tmp 1)) (hs : 80 ≤ a.tmps.size) (h1 : a.eval (.tmp 1) = .int .i64 z) : StepAt Tryz.prog Q a slots15 (I15 q bx b off n c z r Ls w9) 5 o := by
  refine ⟨⟨hg, by rw [hds]; decide⟩, ?_⟩
  rintro d u W ⟨g70, g77, g11, rv, h⟩ hd hdep K hK
  rw [hds] at hK
  have e2 := eval_old (u := u) (slots := slots15) (by decide) h1
  refine wp_yields (w' := W) hds (.int .i64 z) ?_ (hK _ _ ⟨g70, g77, g11, rv, { h with f5 := fun _ => rfl }⟩)
  clear hK hdep h hd
  simp only [execOp, hop, e2]
  go_simp
set_option maxRecDepth 100000 in
theorem st6 {o : Oper} (hg : o.guard = none) (hds : o.dst = some 72) (hop : o.op = .convert 3 51 (.tmp 71)) (hs : 80 ≤ a.tmps.size) (hda : 5 ∈ deps o) : StepAt Tryz.prog Q a slots15 (I15 q bx b off n c z r Ls w9) 6 o := by
  refine ⟨⟨hg, by rw [hds]; decide⟩, ?_⟩
  rintro d u W ⟨g70, g77, g11, rv, h⟩ hd hdep K hK
  rw [hds] at hK
  have e2 := eval_new (a := a) (u := u) (slots := slots15) (t := 71) (by decide) (by decide) (by omega)
  rw [h.f5 (hdep 5 hda)] at e2
  refine wp_yields (w' := W) hds (.int .u64 (IntKind.u64.wrap z)) ?_ (hK _ _ ⟨g70, g77, g11, rv, { h with f6 := fun _ => rfl }⟩)
  clear hK hdep h hd
  simp only [execOp, hop, e2]
  go_simp
set_option maxRecDepth 100000 in
theorem st7 {o : Oper} (hg : o.guard = none) (hds : o.dst = some 73) (hop : o.op = .binOp .rem 51 (.tmp 72) (.const (.int .u64 3)) 51) (hs : 80 ≤ a.tmps.size) (hr : (IntKind.u64.wrap z).tmod 3 = (r : Int)) (hda : 6 ∈ deps o) : StepAt Tryz.prog Q a slots15 (I15 q bx b off n c z r Ls w9) 7 o := by
  refine ⟨⟨hg, by rw [hds]; decide⟩, ?_⟩
  rintro d u W ⟨g70, g77, g11, rv, h⟩ hd hdep K hK
  rw [hds] at hK
  have e2 := eval_new (a := a) (u := u) (slots := slots15) (t := 72) (by decide) (by decide) (by omega)
  rw [h.f6 (hdep 6 hda)] at e2
  refine wp_yields (w' := W) hds (.int .u64 (r : Int)) ?_ (hK _ _ ⟨g70, g77, g11, rv, { h with f7 := fun _ => rfl }⟩)
  clear hK hdep h hd
  simp only [execOp, hop, e2]
  go_simp
set_option maxRecDepth 100000 in
theorem st8 {o : Oper} (hg : o.guard = none) (hds : o.dst = some 74) (hop : o.op = .indexAddr 45 (.tmp 70) (.tmp 73)) (hs : 80 ≤ a.tmps.size) (hr : (r : Int) < 3) (hda : 7 ∈ deps o) (hdb : 4 ∈ deps o) :
    StepAt Tryz.prog Q a slots15 (I15 q bx b off n c z r Ls w9) 8 o := by
  refine ⟨⟨hg, by rw [hds]; decide⟩, ?_⟩
  rintro d u W ⟨g70, g77, g11, rv, h⟩ hd hdep K hK
  rw [hds] at hK
  have e1 := eval_new (a := a) (u := u) (slots := slots15) (t := 70) (by decide) (by decide) (by omega)
  have e2 := eval_new (a := a) (u := u) (slots := slots15) (t := 73) (by decide) (by decide) (by omega)
  rw [h.f4 (hdep 4 hdb)] at e1
  rw [h.f7 (hdep 7 hda)] at e2
  have h0 : (0 : Int) ≤ (r : Int) := Int.natCast_nonneg _
  refine wp_yields (w' := W) hds (.pointer (some ⟨g70, r, none⟩)) ?_ (hK _ _ ⟨g70, g77, g11, rv, { h with c8 := fun _ => hdep 4 hdb, f8 := fun _ => rfl }⟩)
  clear hK hdep h hd
  simp only [execOp, hop, e1, e2]
  go_simp
set_option maxRecDepth 100000 in
theorem st9 {o : Oper} (hg : o.guard = none) (hds : o.dst = some 75) (hop : o.op = .load 9 (.tmp 74)) (hs : 80 ≤ a.tmps.size) (hq : bad3.getD r [] = q) (hr : r < 3) (hda : 8 ∈ deps o) : StepAt Tryz.prog Q a slots15 (I15 q bx b off n c z r Ls w9) 9 o := by
  refine ⟨⟨hg, by rw [hds]; decide⟩, ?_⟩
  rintro d u W ⟨g70, g77, g11, rv, h⟩ hd hdep K hK
  rw [hds] at hK
  have e2 := eval_new (a := a) (u := u) (slots := slots15) (t := 74) (by decide) (by decide) (by omega)
  rw [h.f8 (hdep 8 hda)] at e2
  have hm := (h.m4 (h.c8 (hdep 8 hda)) hd).2.1
  have hc : W.cell? ⟨g70, r, none⟩ = some (sv q) := by
    rw [Lib.cell_of_heap hm, ← hq]
    have hcs : r = 0 ∨ r = 1 ∨ r = 2 := by omega
    rcases hcs with rfl | rfl | rfl <;> rfl
  refine wp_yields (w' := W) hds (sv q) ?_ (hK _ _ ⟨g70, g77, g11, rv, { h with m4 := fun _ h9 => Bool.noConfusion (show true = false from h9), c10 := fun _ => rfl, f9 := fun _ => rfl }⟩)
  clear hK hdep h hd
  simp only [execOp, hop, e2]
  go_simp
set_option maxRecDepth 100000 in
theorem st10 {o : Oper} (hg : o.guard = none) (hds : o.dst = some 76) (hop : o.op = .build 41 #[(1, .tmp 75), (3, .const (.string ⟨#[52, 46, 48]⟩))]) (hs : 80 ≤ a.tmps.size) (hda : 9 ∈ deps o) : StepAt Tryz.prog Q a slots15 (I15 q bx b off n c z r Ls w9) 10 o := by
  refine ⟨⟨hg, by rw [hds]; decide⟩, ?_⟩
  rintro d u W ⟨g70, g77, g11, rv, h⟩ hd hdep K hK
  rw [hds] at hK
  have e2 := eval_new (a := a) (u := u) (slots := slots15) (t := 75) (by decide) (by decide) (by omega)
  rw [h.f9 (hdep 9 hda)] at e2
  refine wp_yields (w' := W) hds (m15 q) ?_ (hK _ _ ⟨g70, g77, g11, rv, { h with c10 := fun _ => hdep 9 hda, c11 := fun _ => rfl, f10 := fun _ => rfl }⟩)
  clear hK hdep h hd
  have ec : ∀ v, (puts a slots15 u).eval (.const v) = v := fun _ => rfl
  simp only [execOp, hop, List.map_toArray, List.map_cons, List.map_nil, e2, ec]
  unfold m15 v40 sv
  go_simp
set_option maxRecDepth 100000 in
theorem st11 {o : Oper} (hg : o.guard = none) (hds : o.dst = some 77) (hop : o.op = .buildSlice 23 1 #[(0, .tmp 76)]) (hs : 80 ≤ a.tmps.size) (hda : 10 ∈ deps o) : StepAt Tryz.prog Q a slots15 (I15 q bx b off n c z r Ls w9) 11 o := by
  refine ⟨⟨hg, by rw [hds]; decide⟩, ?_⟩
  rintro d u W ⟨g70, g77, g11, rv, h⟩ hd hdep K hK
  rw [hds] at hK
  have e2 := eval_new (a := a) (u := u) (slots := slots15) (t := 76) (by decide) (by decide) (by omega)
  rw [h.f10 (hdep 10 hda)] at e2
  obtain ⟨ob, hob⟩ : ∃ ob, (Obj.cells #[.string ⟨#[]⟩, sv q, .slice none 0 0, sv v40] 41 (0, 0) : Obj) = ob := ⟨_, rfl⟩
  have hb : Below W.heap.size W (W.alloc ob) := (Below.refl _ _).alloc (Nat.le_refl _) _
  have h' := h.kept hb
  have h12 : d 12 = false := by
    cases h5 : d 12 with
    | false => rfl
    | true => have := (h.c12 h5).2; rw [hd] at this; cases this
  refine wp_yields (w' := W.alloc ob) hds (.slice (some ⟨W.heap.size, 0, none⟩) 1 1) ?_ (hK _ _ ⟨g70, W.heap.size, g11, rv, { h' with c11 := fun _ => hdep 10 hda, c12 := fun h1 => ⟨(h.c12 h1).1, rfl⟩, f11 := fun _ _ => ⟨rfl, h.bel.size, ?_, fun h0 e => ?_⟩ }⟩)
  · subst hob
    clear hK hdep h hd h'
    simp only [execOp, hop, List.map_toArray, List.map_cons, List.map_nil, e2]
    unfold m15 v40 sv
    go_simp
  · rw [heap_alloc_new W ob, hob]
  · have := h.row h0 _ e
    omega
set_option maxRecDepth 100000 in
theorem st13 {o : Oper} (hg : o.guard = none) (hds : o.dst = some 79) (hop : o.op = .build 25 #[(0, .tmp 78)]) (hs : 80 ≤ a.tmps.size) (hda : 12 ∈ deps o) : StepAt Tryz.prog Q a slots15 (I15 q bx b off n c z r Ls w9) 13 o := by
  refine ⟨⟨hg, by rw [hds]; decide⟩, ?_⟩
  rintro d u W ⟨g70, g77, g11, rv, h⟩ hd hdep K hK
  rw [hds] at hK
  have e2 := eval_new (a := a) (u := u) (slots := slots15) (t := 78) (by decide) (by decide) (by omega)
  rw [(h.f12 (hdep 12 hda)).1] at e2
  obtain ⟨ra, rc, hrv⟩ := (h.f12 (hdep 12 hda)).2.form
  refine wp_yields (w' := W) hds (.agg #[rv]) ?_ (hK _ _ ⟨g70, g77, g11, rv, { h with c13 := fun _ => hdep 12 hda, c15 := fun _ => rfl, f13 := fun _ => rfl }⟩)
  subst hrv
  clear hK hdep h hd
  simp only [execOp, hop, List.map_toArray, List.map_cons, List.map_nil, e2]
  go_simp
set_option maxRecDepth 100000 in
theorem st14 {o : Oper} (hg : o.guard = none) (hds : o.dst = some 11) (hop : o.op = .alloc 25) (hs : 80 ≤ a.tmps.size) : StepAt Tryz.prog Q a slots15 (I15 q bx b off n c z r Ls w9) 14 o := by
  refine ⟨⟨hg, by rw [hds]; decide⟩, ?_⟩
  rintro d u W ⟨g70, g77, g11, rv, h⟩ hd hdep K hK
  rw [hds] at hK
  obtain ⟨ob, hob⟩ : ∃ ob, (Obj.cells #[.slice none 0 0] 25 (0, 0) : Obj) = ob := ⟨_, rfl⟩
  have hb : Below W.heap.size W (W.alloc ob) := (Below.refl _ _).alloc (Nat.le_refl _) _
  have h' := h.kept hb
  refine wp_yields (w' := W.alloc ob) hds (.pointer (some ⟨W.heap.size, 0, none⟩)) ?_ (hK _ _ ⟨g70, g77, W.heap.size, rv, { h' with c15b := fun _ => rfl, f14 := fun _ => ⟨rfl, h.bel.size, ?_, fun h0 e => ?_⟩ }⟩)
  · subst hob
    clear hK hdep h hd h'
    simp only [execOp, hop]
    go_simp
  · have h15 : d 15 = false := by
      cases h5 : d 15 with
      | false => rfl
      | true => have := h.c15b h5; rw [hd] at this; cases this
    show _ = some (Obj.cells #[bif d 15 then _ else _] _ _)
    rw [h15, heap_alloc_new W ob, ← hob]; rfl
  · have := h.row h0 _ e
    omega
set_option maxRecDepth 100000 in
theorem st3 {o : Oper} (hg : o.guard = none) (hds : o.dst = some 69) (hop : o.op = .call { callee := .builtin .append, args := #[.tmp 66, .tmp 68], argTypes := #[23, 23] }) (hs : 80 ≤ a.tmps.size) (us : List Value) (hn : Ls.length = n) (hn0 : 0 < n) (hul : us.length = n) (hN : n ≤ 4194304) (hb : b < w9.heap.size) (hc : ∀ t x, (lcells Ls us)[t]? = some x → w9.cell? ⟨b, off + t, none⟩ = some x) (hP : ∀ (j : Nat) (L : LD) (u : Value), Ls[j]? = some L → us[j]? = some u → PrmsAt w9 u L.params)
    (hda : 0 ∈ deps o) (hdb : 2 ∈ deps o) :
    StepAt Tryz.prog Q a slots15 (I15 q bx b off n c z r Ls w9) 3 o := by
  refine ⟨⟨hg, by rw [hds]; decide⟩, ?_⟩
  rintro d u W ⟨g70, g77, g11, rv, h⟩ hd hdep K hK
  rw [hds] at hK
  obtain ⟨k1, k2⟩ := h.f0 (hdep 0 hda) hd
  have e1 := eval_new (a := a) (u := u) (slots := slots15) (t := 66) (by decide) (by decide) (by omega)
  have e2 := eval_new (a := a) (u := u) (slots := slots15) (t := 68) (by decide) (by decide) (by omega)
  rw [k1] at e1
  rw [h.f2 (hdep 2 hdb)] at e2
  have h12 : d 12 = false := by
    cases h5 : d 12 with
    | false => rfl
    | true => have := (h.c12 h5).1; rw [hd] at this; cases this
  have h15 : d 15 = false := by
    cases h5 : d 15 with
    | false => rfl
    | true => have := h.c13 (h.c15 h5); rw [h12] at this; cases this
  refine mix_op hg hds _ _ hop w9.heap.size rv [] w9 e1 k2 ⟨b, off, none⟩ b off n c Ls us e2 hn hn0 hul rfl (fun t x hx => (h.bel.cell (p := ⟨b, off + t, none⟩) hb).trans (hc t x hx)) hP (by simp; omega) h.bel.size (fun v' w' hm hl hg ho => hK _ _ ⟨g70, g77, g11, v', { h with bel := hl _ _ h.bel (Nat.le_refl _) h.bel.size, c3 := fun _ => hdep 0 hda, c12 := fun h1 => ⟨rfl, (h.c12 h1).2⟩, m4 := fun h1 h2 => ?_, f11 := fun h1 h2 => ?_, f0 := fun _ h3 => Bool.noConfusion (show true = false from h3), f3 := fun _ _ => ⟨rfl, hm⟩, f12 := fun h1 => ?_, f13 := fun h1 => ?_, f14 := fun h1 => ?_ }⟩)
  · have k := h.m4 h1 h2
    have hlt := (Array.getElem?_eq_some_iff.1 k.2.1).1
    have hne := k.2.2 (hdep 0 hda)
    refine ⟨k.1, Li.blk_grown k.2.1 hg (fun g e q => hne (by rw [e, q])), fun _ e => ?_⟩
    rcases ho _ e with q | q
    · exact hne q
    · omega
  · have k := h.f11 h1 h2
    have hlt := (Array.getElem?_eq_some_iff.1 k.2.2.1).1
    have hne := k.2.2.2 (hdep 0 hda)
    refine ⟨k.1, k.2.1, Li.blk_grown k.2.2.1 hg (fun g e q => hne (by rw [e, q])), fun _ e => ?_⟩
    rcases ho _ e with q | q
    · exact hne q
    · omega
  · exact absurd (show d 12 = true from h1) (by rw [h12]; decide)
  · exact absurd (h.c13 h1) (by rw [h12]; decide)
  · have k := h.f14 h1
    have hlt := (Array.getElem?_eq_some_iff.1 k.2.2.1).1
    have hne := k.2.2.2 (hdep 0 hda)
    refine ⟨k.1, k.2.1, ?_, fun _ e => ?_⟩
    · have k3 := k.2.2.1
      rw [h15] at k3
      show _ = some (Obj.cells #[bif d 15 then _ else _] _ _)
      rw [h15]; exact Li.blk_grown k3 hg (fun g e q => hne (by rw [e, q]))
    · rcases ho _ e with q | q
      · exact hne q
      · omega
set_option maxRecDepth 100000 in
theorem st12 {o : Oper} (hg : o.guard = none) (hds : o.dst = some 78) (hop : o.op = .call { callee := .builtin .append, args := #[.tmp 69, .tmp 77], argTypes := #[23, 23] }) (hs : 80 ≤ a.tmps.size) (hn : Ls.length = n) (hN : n ≤ 4194304)
    (hda : 3 ∈ deps o) (hdb : 11 ∈ deps o) :
    StepAt Tryz.prog Q a slots15 (I15 q bx b off n c z r Ls w9) 12 o := by
  refine ⟨⟨hg, by rw [hds]; decide⟩, ?_⟩
  rintro d u W ⟨g70, g77, g11, rv, h⟩ hd hdep K hK
  rw [hds] at hK
  have d3 := hdep 3 hda
  have d11 := hdep 11 hdb
  have d0 := h.c3 d3
  obtain ⟨k1, k2⟩ := h.f3 d3 hd
  obtain ⟨q1, q2, q3, q4⟩ := h.f11 d11 hd
  have e1 := eval_new (a := a) (u := u) (slots := slots15) (t := 69) (by decide) (by decide) (by omega)
  have e2 := eval_new (a := a) (u := u) (slots := slots15) (t := 77) (by decide) (by decide) (by omega)
  rw [k1] at e1
  rw [q1] at e2
  have h15 : d 15 = false := by
    cases h5 : d 15 with
    | false => rfl
    | true => have := h.c13 (h.c15 h5); rw [hd] at this; cases this
  refine mix_op hg hds _ _ hop w9.heap.size rv Ls w9 e1 k2 ⟨g77, 0, none⟩ g77 0 1 1 [bare q v40] [.slice none 0 0] e2 rfl (by decide) rfl rfl (one_cells q3) (fun j M u hj hu => ?_) (by omega) h.bel.size (fun v' w' hm hl hg ho => hK _ _ ⟨g70, g77, g11, v', { h with bel := hl _ _ h.bel (Nat.le_refl _) h.bel.size, c12 := fun _ => ⟨d3, d11⟩, c13 := fun _ => rfl, m4 := fun h1 h2 => ?_, f11 := fun _ h2 => Bool.noConfusion (show true = false from h2), f0 := fun _ h3 => ?_, f3 := fun _ h2 => Bool.noConfusion (show true = false from h2), f12 := fun _ => ⟨rfl, hm⟩, f13 := fun h1 => ?_, f14 := fun h1 => ?_ }⟩)
  · match j, hj, hu with
    | 0, hj, hu => simp at hj hu; subst hj; subst hu; exact prms_nil _
  · exact absurd (h.c10 (h.c11 d11)) (by rw [show d 9 = false from h2]; decide)
  · exact absurd d3 (by rw [show d 3 = false from h3]; decide)
  · exact absurd (h.c13 h1) (by rw [hd]; decide)
  · have k := h.f14 h1
    have hlt := (Array.getElem?_eq_some_iff.1 k.2.2.1).1
    have hne := k.2.2.2 d0
    refine ⟨k.1, k.2.1, ?_, fun _ e => ?_⟩
    · have k3 := k.2.2.1
      rw [h15] at k3
      show _ = some (Obj.cells #[bif d 15 then _ else _] _ _)
      rw [h15]; exact Li.blk_grown k3 hg (fun g e q => hne (by rw [e, q]))
    · rcases ho _ e with q | q
      · exact hne q
      · omega
set_option maxRecDepth 100000 in
theorem st15 {o : Oper} (hg : o.guard = none) (hds : o.dst = none) (hop : o.op = .store 25 (.tmp 11) (.tmp 79)) (hs : 80 ≤ a.tmps.size) (hda : 13 ∈ deps o) (hdb : 14 ∈ deps o) :
    StepAt Tryz.prog Q a slots15 (I15 q bx b off n c z r Ls w9) 15 o := by
  refine ⟨⟨hg, by rw [hds]; decide⟩, ?_⟩
  rintro d u W ⟨g70, g77, g11, rv, h⟩ hd hdep K hK
  rw [hds] at hK
  have d13 := hdep 13 hda
  have d12 := h.c13 d13
  have d3 := (h.c12 d12).1
  have d9 := h.c10 (h.c11 (h.c12 d12).2)
  have d0 := h.c3 d3
  obtain ⟨k1, k2⟩ := h.f12 d12
  obtain ⟨q1, q2, q3, q4⟩ := h.f14 (hdep 14 hdb)
  rw [hd] at q3
  have q3 : W.heap[g11]? = some (.cells #[.slice none 0 0] 25 (0, 0)) := q3
  have e1 := eval_new (a := a) (u := u) (slots := slots15) (t := 11) (by decide) (by decide) (by omega)
  have e2 := eval_new (a := a) (u := u) (slots := slots15) (t := 79) (by decide) (by decide) (by omega)
  rw [q1] at e1
  rw [h.f13 d13] at e2
  obtain ⟨ra, rc, hrv⟩ := k2.form
  have hne : ∀ g, rv.ownBlock = some g → g ≠ g11 := fun g hg e => q4 d0 (by rw [hg, e])
  refine wp_skips (w' := W.setCell ⟨g11, 0, none⟩ rv) hds ?_ (hK undef _ ⟨g70, g77, g11, rv, { h with bel := h.bel.setCell (p := ⟨g11, 0, none⟩) q2 _, c15 := fun _ => d13, c15b := fun _ => hdep 14 hdb, m4 := fun _ h9 => absurd d9 (by rw [show d 9 = false from h9]; decide), f11 := fun _ h2 => absurd d12 (by rw [show d 12 = false from h2]; decide), f0 := fun _ h2 => absurd d3 (by rw [show d 3 = false from h2]; decide), f3 := fun _ h2 => absurd d12 (by rw [show d 12 = false from h2]; decide), f12 := fun _ => ⟨k1, k2.storedNe (a := ⟨g11, 0, none⟩) hne q2 _⟩, f14 := fun _ => ⟨q1, q2, ?_, q4⟩ }⟩)
  · have f9 : W.frozen? ⟨g11, 0, none⟩ = false := Lib.frozen_of_heap q3 0
    have d9 : W.cell? ⟨g11, 0, none⟩ = some (.slice none 0 0) := by rw [Lib.cell_of_heap q3]; rfl
    subst hrv
    simp only [execOp, hop, e1, e2]
    go_simp
  · show (W.setCell ⟨g11, 0, none⟩ rv).heap[g11]? = some (Obj.cells #[rv] _ _)
    simp [World.setCell, Array.getElem?_modify, q3]
end
/-- how much a bare line is longer -/
theorem prsum_two (Ls : List LD) {p : Row × Row} (hp : p ∈ once5) : prsum (Ls ++ [bare p.1 p.2, bare p.1 p.2]) ≤ prsum Ls + 100 := by
  have h1 : ∀ p ∈ once5, p.1.length + 1 + p.2.length ≤ 40 := by decide
  have h2 := h1 p hp
  unfold prsum
  rw [List.map_append, List.sum_append]
  simp [bare_pr]
  omega
theorem prsum_bad (Ls : List LD) {q : Row} (hq : q ∈ bad3) : prsum (Ls ++ [bare q v40]) ≤ prsum Ls + 100 := by
  have h1 : ∀ q ∈ bad3, q.length + 1 + v40.length ≤ 40 := by decide
  have h2 := h1 q hq
  unfold prsum
  rw [List.map_append, List.sum_append]
  simp [bare_pr]
  omega
end Go.Proofs.YthnnpnlapjlnoaaGreatDoor.Ca
