import Derived.Test.YtmmpojhjpghdlaaGreatDoorMg10

/-
  REGIONS 'x, ok := e.only(..)' OF dav.itemOf (written by tools/gendavreg.py): each by an invariant (RegInv), operation by operation.
-/
set_option linter.unusedVariables false
namespace Go.Proofs.YtmmpojhjpghdlaaGreatDoor.Dv.I5
open Go.Lib Go.RowKit Rg
open Xm (sv)
def sl : List Nat := [46, 47, 48, 49, 45, 50, 51, 11, 12]
abbrev EE (s : Int) (nb tb : ByteArray) (A : Option Addr) (n c : Nat) : Value := .agg #[.int .i64 s, .string nb, .string tb, .slice A n c]
structure N (w1 : World) (s s' : Int) (nb tb n' t' : ByteArray) (A A' : Option Addr) (n c n2 c2 : Nat) (rb : Bool) (g : Nat) (d : Nat → Bool) (u : Nat → Value) (W : World) : Prop where
  bel : Below w1.heap.size w1 W
  cM : d 4 = true → d 3 = true
  cX : d 5 = true → d 3 = true
  cS : d 8 = true → d 3 = true
  cP : d 8 = true → d 7 = true
  f0 : d 0 = true → u 46 = EE s nb tb A n c
  f1 : d 1 = true → u 47 = .agg #[.int .i64 1, .string ⟨#[103, 101, 116, 101, 116, 97, 103]⟩]
  fB : d 2 = true → d 3 = false → NmsAt W (u 48) [((1 : Int), (⟨#[103, 101, 116, 101, 116, 97, 103]⟩ : ByteArray))]
  fC : d 3 = true → u 49 = .tuple #[EE s' n' t' A' n2 c2, .bool rb]
  fM : d 4 = true → u 45 = .tuple #[EE s' n' t' A' n2 c2, .bool rb]
  fX : d 5 = true → u 50 = EE s' n' t' A' n2 c2
  fY : d 6 = true → u 51 = .bool rb
  fP : d 7 = true → u 11 = .pointer (some ⟨g, 0, none⟩) ∧ w1.heap.size ≤ g ∧ W.heap[g]? = some (bif d 8 then elB s' n' t' (.slice A' n2 c2) else zB)
  fQ : d 9 = true → u 12 = .bool rb
def I (w1 : World) (s s' : Int) (nb tb n' t' : ByteArray) (A A' : Option Addr) (n c n2 c2 : Nat) (rb : Bool) (d : Nat → Bool) (u : Nat → Value) (W : World) : Prop := ∃ g, N w1 s s' nb tb n' t' A A' n c n2 c2 rb g d u W
section
variable {Q : Exit → Act → World → Prop} {a : Act} {w1 : World} {s s' : Int} {nb tb n' t' : ByteArray} {A A' : Option Addr} {n c n2 c2 : Nat} {rb : Bool} {g : Nat} {d : Nat → Bool} {u : Nat → Value} {W : World}
theorem N.kept (h : N w1 s s' nb tb n' t' A A' n c n2 c2 rb g d u W) {W' : World} (hb : Below W.heap.size W W') : N w1 s s' nb tb n' t' A A' n c n2 c2 rb g d u W' :=
  { h with
    bel := Xm.below_then h.bel hb
    fB := fun h1 h2 => (h.fB h1 h2).kept hb
    fP := fun h1 => have k := h.fP h1; ⟨k.1, k.2.1, blk_at k.2.2 hb⟩ }
set_option maxRecDepth 100000 in
theorem st0 {o : Oper} (hg : o.guard = none) (hds : o.dst = some 46) (hop : o.op = .load 59 (.tmp 9)) (gs : Nat) (h5 : a.eval (.tmp 9) = .pointer (some ⟨gs, 0, none⟩)) (hc : ∀ W, Below w1.heap.size w1 W → W.heap[gs]? = some (elB s nb tb (.slice A n c))) : StepAt Tryz.prog Q a sl (I w1 s s' nb tb n' t' A A' n c n2 c2 rb) 0 o := by
  refine ⟨⟨hg, by rw [hds]; decide⟩, ?_⟩
  rintro d u W ⟨g, h⟩ hd hdep K hK
  rw [hds] at hK
  have e2 := eval_old (u := u) (slots := sl) (by decide) h5
  obtain ⟨x0, x1, x2, x3, _⟩ := cellsE (hc W h.bel)
  refine wp_yields (w' := W) hds (EE s nb tb A n c) ?_ (hK _ _ ⟨g, { h with f0 := fun _ => rfl }⟩)
  clear hK hdep h hd hc
  simp only [execOp, hop, e2]
  go_simp
set_option maxRecDepth 100000 in
theorem st1 {o : Oper} (hg : o.guard = none) (hds : o.dst = some 47) (hop : o.op = .call { callee := .value (.func 40), args := #[.const (.string ⟨#[103, 101, 116, 101, 116, 97, 103]⟩)], argTypes := #[9] }) : StepAt Tryz.prog Q a sl (I w1 s s' nb tb n' t' A A' n c n2 c2 rb) 1 o := by
  refine ⟨⟨hg, by rw [hds]; decide⟩, ?_⟩
  rintro d u W ⟨g, h⟩ hd hdep K hK
  rw [hds] at hK
  refine wp_callsD hds 40 #[.string ⟨#[103, 101, 116, 101, 116, 97, 103]⟩] ?_ ((dav_any ⟨#[103, 101, 116, 101, 116, 97, 103]⟩ W).mono ?_)
  · clear hK hdep h hd
    simp only [execOp, hop]
    go_simp
  · rintro e w' ⟨rfl, hb⟩
    exact ⟨_, rfl, hK _ _ ⟨g, { h.kept hb with f1 := fun _ => rfl }⟩⟩
theorem N.noC (h : N w1 s s' nb tb n' t' A A' n c n2 c2 rb g d u W) (h1 : d 3 = false) : d 4 = false ∧ d 5 = false ∧ d 8 = false := by
  refine ⟨?_, ?_, ?_⟩
  · cases hh : d 4 with
    | false => rfl
    | true => have := h.cM hh; rw [h1] at this; cases this
  · cases hh : d 5 with
    | false => rfl
    | true => have := h.cX hh; rw [h1] at this; cases this
  · cases hh : d 8 with
    | false => rfl
    | true => have := h.cS hh; rw [h1] at this; cases this
set_option maxRecDepth 100000 in
theorem stB {o : Oper} (hg : o.guard = none) (hds : o.dst = some 48) (hop : o.op = .buildSlice 27 1 #[(0, .tmp 47)]) (hs : 75 ≤ a.tmps.size) (hda1 : 1 ∈ deps o) : StepAt Tryz.prog Q a sl (I w1 s s' nb tb n' t' A A' n c n2 c2 rb) 2 o := by
  refine ⟨⟨hg, by rw [hds]; decide⟩, ?_⟩
  rintro d u W ⟨g, h⟩ hd hdep K hK
  rw [hds] at hK
  have e1 := eval_new (a := a) (u := u) (slots := sl) (t := 47) (by decide) (by decide) (by omega)
  rw [h.f1 (hdep 1 hda1)] at e1
  obtain ⟨ob, hob⟩ : ∃ ob, (Obj.cells #[.int .i64 1, .string ⟨#[103, 101, 116, 101, 116, 97, 103]⟩] 24 (0, 0) : Obj) = ob := ⟨_, rfl⟩
  have hb : Below W.heap.size W (W.alloc ob) := (Below.refl _ _).alloc (Nat.le_refl _) _
  have hnm : NmsAt (W.alloc ob) (.slice (some ⟨W.heap.size, 0, none⟩) 1 1) [((1 : Int), (⟨#[103, 101, 116, 101, 116, 97, 103]⟩ : ByteArray))] := by rw [← hob]; exact nms1 _ 1 ⟨#[103, 101, 116, 101, 116, 97, 103]⟩
  refine wp_yields (w' := W.alloc ob) hds (.slice (some ⟨W.heap.size, 0, none⟩) 1 1) ?_ (hK _ _ ⟨g, { h.kept hb with fB := fun _ _ => hnm }⟩)
  subst hob
  clear hK hdep h hd hnm
  simp only [execOp, hop, List.map_toArray, List.map_cons, List.map_nil, e1]
  go_simp
set_option maxRecDepth 100000 in
theorem stC {o : Oper} (hg : o.guard = none) (hds : o.dst = some 49) (hop : o.op = .call { callee := .value (.func 64), args := #[.tmp 46, .tmp 48], argTypes := #[59, 27] }) (hs : 75 ≤ a.tmps.size) (hd0 : 0 ∈ deps o) (hdB : 2 ∈ deps o)
    (cO : ∀ W v, Below w1.heap.size w1 W → NmsAt W v [((1 : Int), (⟨#[103, 101, 116, 101, 116, 97, 103]⟩ : ByteArray))] → Calls Tryz.prog 64 #[EE s nb tb A n c, v] W fun e w' => e = .returned (.tuple #[EE s' n' t' A' n2 c2, .bool rb]) ∧ Below W.heap.size W w') : StepAt Tryz.prog Q a sl (I w1 s s' nb tb n' t' A A' n c n2 c2 rb) 3 o := by
  refine ⟨⟨hg, by rw [hds]; decide⟩, ?_⟩
  rintro d u W ⟨g, h⟩ hd hdep K hK
  rw [hds] at hK
  have e1 := eval_new (a := a) (u := u) (slots := sl) (t := 46) (by decide) (by decide) (by omega)
  have e2 := eval_new (a := a) (u := u) (slots := sl) (t := 48) (by decide) (by decide) (by omega)
  rw [h.f0 (hdep 0 hd0)] at e1
  have hn := h.fB (hdep 2 hdB) hd
  have hC := cO W _ h.bel hn
  obtain ⟨b, hbv, _⟩ := hn
  rw [hbv] at e2 hC
  refine wp_callsD hds 64 _ ?_ (hC.mono ?_)
  · clear hK hdep h hd cO hC
    replace e1 := tmpE e1
    replace e2 := tmpE e2
    simp only [execOp, hop]
    go_simp
  · rintro e w' ⟨rfl, hb⟩
    exact ⟨_, rfl, hK _ _ ⟨g, { h.kept hb with cM := fun _ => rfl, cX := fun _ => rfl, cS := fun _ => rfl, fB := fun _ q => Bool.noConfusion (show true = false from q), fC := fun _ => rfl }⟩⟩
set_option maxRecDepth 100000 in
theorem stM {o : Oper} (hg : o.guard = none) (hds : o.dst = some 45) (hop : o.op = .move (.tmp 49)) (hs : 75 ≤ a.tmps.size) (hdC : 3 ∈ deps o) : StepAt Tryz.prog Q a sl (I w1 s s' nb tb n' t' A A' n c n2 c2 rb) 4 o := by
  refine ⟨⟨hg, by rw [hds]; decide⟩, ?_⟩
  rintro d u W ⟨g, h⟩ hd hdep K hK
  rw [hds] at hK
  have e1 := eval_new (a := a) (u := u) (slots := sl) (t := 49) (by decide) (by decide) (by omega)
  rw [h.fC (hdep 3 hdC)] at e1
  refine wp_yields (w' := W) hds (.tuple #[EE s' n' t' A' n2 c2, .bool rb]) ?_ (hK _ _ ⟨g, { h with cM := fun _ => hdep 3 hdC, fM := fun _ => rfl }⟩)
  clear hK hdep h hd
  simp only [execOp, hop, e1]
  go_simp
set_option maxRecDepth 100000 in
theorem stX {o : Oper} (hg : o.guard = none) (hds : o.dst = some 50) (hop : o.op = .extract (.tmp 45) 0) (hs : 75 ≤ a.tmps.size) (hdM : 4 ∈ deps o) : StepAt Tryz.prog Q a sl (I w1 s s' nb tb n' t' A A' n c n2 c2 rb) 5 o := by
  refine ⟨⟨hg, by rw [hds]; decide⟩, ?_⟩
  rintro d u W ⟨g, h⟩ hd hdep K hK
  rw [hds] at hK
  have e1 := eval_new (a := a) (u := u) (slots := sl) (t := 45) (by decide) (by decide) (by omega)
  rw [h.fM (hdep 4 hdM)] at e1
  refine wp_yields (w' := W) hds (EE s' n' t' A' n2 c2) ?_ (hK _ _ ⟨g, { h with cX := fun _ => h.cM (hdep 4 hdM), fX := fun _ => rfl }⟩)
  clear hK hdep h hd
  simp only [execOp, hop, e1]
  go_simp
set_option maxRecDepth 100000 in
theorem stY {o : Oper} (hg : o.guard = none) (hds : o.dst = some 51) (hop : o.op = .extract (.tmp 45) 1) (hs : 75 ≤ a.tmps.size) (hdM : 4 ∈ deps o) : StepAt Tryz.prog Q a sl (I w1 s s' nb tb n' t' A A' n c n2 c2 rb) 6 o := by
  refine ⟨⟨hg, by rw [hds]; decide⟩, ?_⟩
  rintro d u W ⟨g, h⟩ hd hdep K hK
  rw [hds] at hK
  have e1 := eval_new (a := a) (u := u) (slots := sl) (t := 45) (by decide) (by decide) (by omega)
  rw [h.fM (hdep 4 hdM)] at e1
  refine wp_yields (w' := W) hds (.bool rb) ?_ (hK _ _ ⟨g, { h with fY := fun _ => rfl }⟩)
  clear hK hdep h hd
  simp only [execOp, hop, e1]
  go_simp
set_option maxRecDepth 100000 in
theorem stP {o : Oper} (hg : o.guard = none) (hds : o.dst = some 11) (hop : o.op = .alloc 59) : StepAt Tryz.prog Q a sl (I w1 s s' nb tb n' t' A A' n c n2 c2 rb) 7 o := by
  refine ⟨⟨hg, by rw [hds]; decide⟩, ?_⟩
  rintro d u W ⟨g, h⟩ hd hdep K hK
  rw [hds] at hK
  have hb : Below W.heap.size W (W.alloc zB) := (Below.refl _ _).alloc (Nat.le_refl _) _
  have hS : d 8 = false := by
    cases hh : d 8 with
    | false => rfl
    | true => have := h.cP hh; rw [hd] at this; cases this
  refine wp_yields (w' := W.alloc zB) hds (.pointer (some ⟨W.heap.size, 0, none⟩)) ?_ (hK _ _ ⟨W.heap.size, { h.kept hb with cP := fun _ => rfl, fP := fun _ => ⟨rfl, h.bel.size, ?_⟩ }⟩)
  · clear hK hdep h hd hS hb
    unfold zB
    simp only [execOp, hop]
    go_simp
  · show _ = some (bif d 8 then _ else _)
    rw [hS]
    exact heap_alloc_new W _
set_option maxRecDepth 100000 in
theorem stS {o : Oper} (hg : o.guard = none) (hds : o.dst = none) (hop : o.op = .store 59 (.tmp 11) (.tmp 50)) (hs : 75 ≤ a.tmps.size) (hdX : 5 ∈ deps o) (hdP : 7 ∈ deps o) : StepAt Tryz.prog Q a sl (I w1 s s' nb tb n' t' A A' n c n2 c2 rb) 8 o := by
  refine ⟨⟨hg, by rw [hds]; rfl⟩, ?_⟩
  rintro d u W ⟨g, h⟩ hd hdep K hK
  rw [hds] at hK
  have dX := hdep 5 hdX
  have dP := hdep 7 hdP
  have e1 := eval_new (a := a) (u := u) (slots := sl) (t := 11) (by decide) (by decide) (by omega)
  have e2 := eval_new (a := a) (u := u) (slots := sl) (t := 50) (by decide) (by decide) (by omega)
  obtain ⟨p1, p2, p3⟩ := h.fP dP
  rw [p1] at e1
  rw [h.fX dX] at e2
  rw [hd] at p3
  have p3 : W.heap[g]? = some zB := p3
  obtain ⟨z0, z1, z2, z3, y0, y1, y2, y3, _⟩ := cellsE p3
  have hb : ∀ v0 v1 v2 v3, Below w1.heap.size w1 ((((W.setCell ⟨g, 0, none⟩ v0).setCell ⟨g, 1, none⟩ v1).setCell ⟨g, 2, none⟩ v2).setCell ⟨g, 3, none⟩ v3) := fun v0 v1 v2 v3 =>
    (((h.bel.setCell (p := ⟨g, 0, none⟩) p2 _).setCell (p := ⟨g, 1, none⟩) p2 _).setCell (p := ⟨g, 2, none⟩) p2 _).setCell (p := ⟨g, 3, none⟩) p2 _
  have hcl : ∀ v0 v1 v2 v3, ((((W.setCell ⟨g, 0, none⟩ v0).setCell ⟨g, 1, none⟩ v1).setCell ⟨g, 2, none⟩ v2).setCell ⟨g, 3, none⟩ v3).heap[g]? = some (.cells #[v0, v1, v2, v3] 59 (0, 0)) := fun v0 v1 v2 v3 => by
    simp [World.setCell, Array.getElem?_modify, p3, zB]
  refine wp_skips (w' := (((W.setCell ⟨g, 0, none⟩ (.int .i64 s')).setCell ⟨g, 1, none⟩ (.string n')).setCell ⟨g, 2, none⟩ (.string t')).setCell ⟨g, 3, none⟩ (.slice A' n2 c2)) hds ?_ (hK undef _ ⟨g, { h with bel := hb _ _ _ _, cS := fun _ => h.cX dX, cP := fun _ => dP, fB := fun _ q => absurd (h.cX dX) (by rw [show d 3 = false from q]; decide), fP := fun _ => ⟨p1, p2, hcl _ _ _ _⟩ }⟩)
  clear hK hdep h hd hb hcl p3
  simp only [execOp, hop, e1, e2]
  go_simp
set_option maxRecDepth 100000 in
theorem stQ {o : Oper} (hg : o.guard = none) (hds : o.dst = some 12) (hop : o.op = .assign (.tmp 51)) (hs : 75 ≤ a.tmps.size) (hdY : 6 ∈ deps o) : StepAt Tryz.prog Q a sl (I w1 s s' nb tb n' t' A A' n c n2 c2 rb) 9 o := by
  refine ⟨⟨hg, by rw [hds]; decide⟩, ?_⟩
  rintro d u W ⟨g, h⟩ hd hdep K hK
  rw [hds] at hK
  have e1 := eval_new (a := a) (u := u) (slots := sl) (t := 51) (by decide) (by decide) (by omega)
  rw [h.fY (hdep 6 hdY)] at e1
  refine wp_yields (w' := W) hds (.bool rb) ?_ (hK _ _ ⟨g, { h with fQ := fun _ => rfl }⟩)
  clear hK hdep h hd
  simp only [execOp, hop, e1]
  go_simp
end
theorem N.start {w1 W : World} {s s' : Int} {nb tb n' t' : ByteArray} {A A' : Option Addr} {n c n2 c2 : Nat} {rb : Bool} {u : Nat → Value} (hb : Below w1.heap.size w1 W) : I w1 s s' nb tb n' t' A A' n c n2 c2 rb (fun _ => false) u W :=
  ⟨0, ⟨hb, nofun, nofun, nofun, nofun, nofun, nofun, nofun, nofun, nofun, nofun, nofun, nofun, nofun⟩⟩
end Go.Proofs.YtmmpojhjpghdlaaGreatDoor.Dv.I5
namespace Go.Proofs.YtmmpojhjpghdlaaGreatDoor.Dv.I6
open Go.Lib Go.RowKit Rg
open Xm (sv)
def sl : List Nat := [53, 54, 55, 56, 52, 57, 58, 13, 14]
abbrev EE (s : Int) (nb tb : ByteArray) (A : Option Addr) (n c : Nat) : Value := .agg #[.int .i64 s, .string nb, .string tb, .slice A n c]
structure N (w1 : World) (s s' : Int) (nb tb n' t' : ByteArray) (A A' : Option Addr) (n c n2 c2 : Nat) (rb : Bool) (g : Nat) (d : Nat → Bool) (u : Nat → Value) (W : World) : Prop where
  bel : Below w1.heap.size w1 W
  cM : d 4 = true → d 3 = true
  cX : d 5 = true → d 3 = true
  cS : d 8 = true → d 3 = true
  cP : d 8 = true → d 7 = true
  f0 : d 0 = true → u 53 = EE s nb tb A n c
  f1 : d 1 = true → u 54 = .agg #[.int .i64 2, .string ⟨#[97, 100, 100, 114, 101, 115, 115, 45, 100, 97, 116, 97]⟩]
  fB : d 2 = true → d 3 = false → NmsAt W (u 55) [((2 : Int), (⟨#[97, 100, 100, 114, 101, 115, 115, 45, 100, 97, 116, 97]⟩ : ByteArray))]
  fC : d 3 = true → u 56 = .tuple #[EE s' n' t' A' n2 c2, .bool rb]
  fM : d 4 = true → u 52 = .tuple #[EE s' n' t' A' n2 c2, .bool rb]
  fX : d 5 = true → u 57 = EE s' n' t' A' n2 c2
  fY : d 6 = true → u 58 = .bool rb
  fP : d 7 = true → u 13 = .pointer (some ⟨g, 0, none⟩) ∧ w1.heap.size ≤ g ∧ W.heap[g]? = some (bif d 8 then elB s' n' t' (.slice A' n2 c2) else zB)
  fQ : d 9 = true → u 14 = .bool rb
def I (w1 : World) (s s' : Int) (nb tb n' t' : ByteArray) (A A' : Option Addr) (n c n2 c2 : Nat) (rb : Bool) (d : Nat → Bool) (u : Nat → Value) (W : World) : Prop := ∃ g, N w1 s s' nb tb n' t' A A' n c n2 c2 rb g d u W
section
variable {Q : Exit → Act → World → Prop} {a : Act} {w1 : World} {s s' : Int} {nb tb n' t' : ByteArray} {A A' : Option Addr} {n c n2 c2 : Nat} {rb : Bool} {g : Nat} {d : Nat → Bool} {u : Nat → Value} {W : World}
theorem N.kept (h : N w1 s s' nb tb n' t' A A' n c n2 c2 rb g d u W) {W' : World} (hb : Below W.heap.size W W') : N w1 s s' nb tb n' t' A A' n c n2 c2 rb g d u W' :=
  { h with
    bel := Xm.below_then h.bel hb
    fB := fun h1 h2 => (h.fB h1 h2).kept hb
    fP := fun h1 => have k := h.fP h1; ⟨k.1, k.2.1, blk_at k.2.2 hb⟩ }
set_option maxRecDepth 100000 in
theorem st0 {o : Oper} (hg : o.guard = none) (hds : o.dst = some 53) (hop : o.op = .load 59 (.tmp 9)) (gs : Nat) (h5 : a.eval (.tmp 9) = .pointer (some ⟨gs, 0, none⟩)) (hc : ∀ W, Below w1.heap.size w1 W → W.heap[gs]? = some (elB s nb tb (.slice A n c))) : StepAt Tryz.prog Q a sl (I w1 s s' nb tb n' t' A A' n c n2 c2 rb) 0 o := by
  refine ⟨⟨hg, by rw [hds]; decide⟩, ?_⟩
  rintro d u W ⟨g, h⟩ hd hdep K hK
  rw [hds] at hK
  have e2 := eval_old (u := u) (slots := sl) (by decide) h5
  obtain ⟨x0, x1, x2, x3, _⟩ := cellsE (hc W h.bel)
  refine wp_yields (w' := W) hds (EE s nb tb A n c) ?_ (hK _ _ ⟨g, { h with f0 := fun _ => rfl }⟩)
  clear hK hdep h hd hc
  simp only [execOp, hop, e2]
  go_simp
set_option maxRecDepth 100000 in
theorem st1 {o : Oper} (hg : o.guard = none) (hds : o.dst = some 54) (hop : o.op = .call { callee := .value (.func 43), args := #[.const (.string ⟨#[97, 100, 100, 114, 101, 115, 115, 45, 100, 97, 116, 97]⟩)], argTypes := #[9] }) : StepAt Tryz.prog Q a sl (I w1 s s' nb tb n' t' A A' n c n2 c2 rb) 1 o := by
  refine ⟨⟨hg, by rw [hds]; decide⟩, ?_⟩
  rintro d u W ⟨g, h⟩ hd hdep K hK
  rw [hds] at hK
  refine wp_callsD hds 43 #[.string ⟨#[97, 100, 100, 114, 101, 115, 115, 45, 100, 97, 116, 97]⟩] ?_ ((card_any ⟨#[97, 100, 100, 114, 101, 115, 115, 45, 100, 97, 116, 97]⟩ W).mono ?_)
  · clear hK hdep h hd
    simp only [execOp, hop]
    go_simp
  · rintro e w' ⟨rfl, hb⟩
    exact ⟨_, rfl, hK _ _ ⟨g, { h.kept hb with f1 := fun _ => rfl }⟩⟩
theorem N.noC (h : N w1 s s' nb tb n' t' A A' n c n2 c2 rb g d u W) (h1 : d 3 = false) : d 4 = false ∧ d 5 = false ∧ d 8 = false := by
  refine ⟨?_, ?_, ?_⟩
  · cases hh : d 4 with
    | false => rfl
    | true => have := h.cM hh; rw [h1] at this; cases this
  · cases hh : d 5 with
    | false => rfl
    | true => have := h.cX hh; rw [h1] at this; cases this
  · cases hh : d 8 with
    | false => rfl
    | true => have := h.cS hh; rw [h1] at this; cases this
set_option maxRecDepth 100000 in
theorem stB {o : Oper} (hg : o.guard = none) (hds : o.dst = some 55) (hop : o.op = .buildSlice 27 1 #[(0, .tmp 54)]) (hs : 75 ≤ a.tmps.size) (hda1 : 1 ∈ deps o) : StepAt Tryz.prog Q a sl (I w1 s s' nb tb n' t' A A' n c n2 c2 rb) 2 o := by
  refine ⟨⟨hg, by rw [hds]; decide⟩, ?_⟩
  rintro d u W ⟨g, h⟩ hd hdep K hK
  rw [hds] at hK
  have e1 := eval_new (a := a) (u := u) (slots := sl) (t := 54) (by decide) (by decide) (by omega)
  rw [h.f1 (hdep 1 hda1)] at e1
  obtain ⟨ob, hob⟩ : ∃ ob, (Obj.cells #[.int .i64 2, .string ⟨#[97, 100, 100, 114, 101, 115, 115, 45, 100, 97, 116, 97]⟩] 24 (0, 0) : Obj) = ob := ⟨_, rfl⟩
  have hb : Below W.heap.size W (W.alloc ob) := (Below.refl _ _).alloc (Nat.le_refl _) _
  have hnm : NmsAt (W.alloc ob) (.slice (some ⟨W.heap.size, 0, none⟩) 1 1) [((2 : Int), (⟨#[97, 100, 100, 114, 101, 115, 115, 45, 100, 97, 116, 97]⟩ : ByteArray))] := by rw [← hob]; exact nms1 _ 2 ⟨#[97, 100, 100, 114, 101, 115, 115, 45, 100, 97, 116, 97]⟩
  refine wp_yields (w' := W.alloc ob) hds (.slice (some ⟨W.heap.size, 0, none⟩) 1 1) ?_ (hK _ _ ⟨g, { h.kept hb with fB := fun _ _ => hnm }⟩)
  subst hob
  clear hK hdep h hd hnm
  simp only [execOp, hop, List.map_toArray, List.map_cons, List.map_nil, e1]
  go_simp
set_option maxRecDepth 100000 in
theorem stC {o : Oper} (hg : o.guard = none) (hds : o.dst = some 56) (hop : o.op = .call { callee := .value (.func 64), args := #[.tmp 53, .tmp 55], argTypes := #[59, 27] }) (hs : 75 ≤ a.tmps.size) (hd0 : 0 ∈ deps o) (hdB : 2 ∈ deps o)
    (cO : ∀ W v, Below w1.heap.size w1 W → NmsAt W v [((2 : Int), (⟨#[97, 100, 100, 114, 101, 115, 115, 45, 100, 97, 116, 97]⟩ : ByteArray))] → Calls Tryz.prog 64 #[EE s nb tb A n c, v] W fun e w' => e = .returned (.tuple #[EE s' n' t' A' n2 c2, .bool rb]) ∧ Below W.heap.size W w') : StepAt Tryz.prog Q a sl (I w1 s s' nb tb n' t' A A' n c n2 c2 rb) 3 o := by
  refine ⟨⟨hg, by rw [hds]; decide⟩, ?_⟩
  rintro d u W ⟨g, h⟩ hd hdep K hK
  rw [hds] at hK
  have e1 := eval_new (a := a) (u := u) (slots := sl) (t := 53) (by decide) (by decide) (by omega)
  have e2 := eval_new (a := a) (u := u) (slots := sl) (t := 55) (by decide) (by decide) (by omega)
  rw [h.f0 (hdep 0 hd0)] at e1
  have hn := h.fB (hdep 2 hdB) hd
  have hC := cO W _ h.bel hn
  obtain ⟨b, hbv, _⟩ := hn
  rw [hbv] at e2 hC
  refine wp_callsD hds 64 _ ?_ (hC.mono ?_)
  · clear hK hdep h hd cO hC
    replace e1 := tmpE e1
    replace e2 := tmpE e2
    simp only [execOp, hop]
    go_simp
  · rintro e w' ⟨rfl, hb⟩
    exact ⟨_, rfl, hK _ _ ⟨g, { h.kept hb with cM := fun _ => rfl, cX := fun _ => rfl, cS := fun _ => rfl, fB := fun _ q => Bool.noConfusion (show true = false from q), fC := fun _ => rfl }⟩⟩
set_option maxRecDepth 100000 in
theorem stM {o : Oper} (hg : o.guard = none) (hds : o.dst = some 52) (hop : o.op = .move (.tmp 56)) (hs : 75 ≤ a.tmps.size) (hdC : 3 ∈ deps o) : StepAt Tryz.prog Q a sl (I w1 s s' nb tb n' t' A A' n c n2 c2 rb) 4 o := by
  refine ⟨⟨hg, by rw [hds]; decide⟩, ?_⟩
  rintro d u W ⟨g, h⟩ hd hdep K hK
  rw [hds] at hK
  have e1 := eval_new (a := a) (u := u) (slots := sl) (t := 56) (by decide) (by decide) (by omega)
  rw [h.fC (hdep 3 hdC)] at e1
  refine wp_yields (w' := W) hds (.tuple #[EE s' n' t' A' n2 c2, .bool rb]) ?_ (hK _ _ ⟨g, { h with cM := fun _ => hdep 3 hdC, fM := fun _ => rfl }⟩)
  clear hK hdep h hd
  simp only [execOp, hop, e1]
  go_simp
set_option maxRecDepth 100000 in
theorem stX {o : Oper} (hg : o.guard = none) (hds : o.dst = some 57) (hop : o.op = .extract (.tmp 52) 0) (hs : 75 ≤ a.tmps.size) (hdM : 4 ∈ deps o) : StepAt Tryz.prog Q a sl (I w1 s s' nb tb n' t' A A' n c n2 c2 rb) 5 o := by
  refine ⟨⟨hg, by rw [hds]; decide⟩, ?_⟩
  rintro d u W ⟨g, h⟩ hd hdep K hK
  rw [hds] at hK
  have e1 := eval_new (a := a) (u := u) (slots := sl) (t := 52) (by decide) (by decide) (by omega)
  rw [h.fM (hdep 4 hdM)] at e1
  refine wp_yields (w' := W) hds (EE s' n' t' A' n2 c2) ?_ (hK _ _ ⟨g, { h with cX := fun _ => h.cM (hdep 4 hdM), fX := fun _ => rfl }⟩)
  clear hK hdep h hd
  simp only [execOp, hop, e1]
  go_simp
set_option maxRecDepth 100000 in
theorem stY {o : Oper} (hg : o.guard = none) (hds : o.dst = some 58) (hop : o.op = .extract (.tmp 52) 1) (hs : 75 ≤ a.tmps.size) (hdM : 4 ∈ deps o) : StepAt Tryz.prog Q a sl (I w1 s s' nb tb n' t' A A' n c n2 c2 rb) 6 o := by
  refine ⟨⟨hg, by rw [hds]; decide⟩, ?_⟩
  rintro d u W ⟨g, h⟩ hd hdep K hK
  rw [hds] at hK
  have e1 := eval_new (a := a) (u := u) (slots := sl) (t := 52) (by decide) (by decide) (by omega)
  rw [h.fM (hdep 4 hdM)] at e1
  refine wp_yields (w' := W) hds (.bool rb) ?_ (hK _ _ ⟨g, { h with fY := fun _ => rfl }⟩)
  clear hK hdep h hd
  simp only [execOp, hop, e1]
  go_simp
set_option maxRecDepth 100000 in
theorem stP {o : Oper} (hg : o.guard = none) (hds : o.dst = some 13) (hop : o.op = .alloc 59) : StepAt Tryz.prog Q a sl (I w1 s s' nb tb n' t' A A' n c n2 c2 rb) 7 o := by
  refine ⟨⟨hg, by rw [hds]; decide⟩, ?_⟩
  rintro d u W ⟨g, h⟩ hd hdep K hK
  rw [hds] at hK
  have hb : Below W.heap.size W (W.alloc zB) := (Below.refl _ _).alloc (Nat.le_refl _) _
  have hS : d 8 = false := by
    cases hh : d 8 with
    | false => rfl
    | true => have := h.cP hh; rw [hd] at this; cases this
  refine wp_yields (w' := W.alloc zB) hds (.pointer (some ⟨W.heap.size, 0, none⟩)) ?_ (hK _ _ ⟨W.heap.size, { h.kept hb with cP := fun _ => rfl, fP := fun _ => ⟨rfl, h.bel.size, ?_⟩ }⟩)
  · clear hK hdep h hd hS hb
    unfold zB
    simp only [execOp, hop]
    go_simp
  · show _ = some (bif d 8 then _ else _)
    rw [hS]
    exact heap_alloc_new W _
set_option maxRecDepth 100000 in
theorem stS {o : Oper} (hg : o.guard = none) (hds : o.dst = none) (hop : o.op = .store 59 (.tmp 13) (.tmp 57)) (hs : 75 ≤ a.tmps.size) (hdX : 5 ∈ deps o) (hdP : 7 ∈ deps o) : StepAt Tryz.prog Q a sl (I w1 s s' nb tb n' t' A A' n c n2 c2 rb) 8 o := by
  refine ⟨⟨hg, by rw [hds]; rfl⟩, ?_⟩
  rintro d u W ⟨g, h⟩ hd hdep K hK
  rw [hds] at hK
  have dX := hdep 5 hdX
  have dP := hdep 7 hdP
  have e1 := eval_new (a := a) (u := u) (slots := sl) (t := 13) (by decide) (by decide) (by omega)
  have e2 := eval_new (a := a) (u := u) (slots := sl) (t := 57) (by decide) (by decide) (by omega)
  obtain ⟨p1, p2, p3⟩ := h.fP dP
  rw [p1] at e1
  rw [h.fX dX] at e2
  rw [hd] at p3
  have p3 : W.heap[g]? = some zB := p3
  obtain ⟨z0, z1, z2, z3, y0, y1, y2, y3, _⟩ := cellsE p3
  have hb : ∀ v0 v1 v2 v3, Below w1.heap.size w1 ((((W.setCell ⟨g, 0, none⟩ v0).setCell ⟨g, 1, none⟩ v1).setCell ⟨g, 2, none⟩ v2).setCell ⟨g, 3, none⟩ v3) := fun v0 v1 v2 v3 =>
    (((h.bel.setCell (p := ⟨g, 0, none⟩) p2 _).setCell (p := ⟨g, 1, none⟩) p2 _).setCell (p := ⟨g, 2, none⟩) p2 _).setCell (p := ⟨g, 3, none⟩) p2 _
  have hcl : ∀ v0 v1 v2 v3, ((((W.setCell ⟨g, 0, none⟩ v0).setCell ⟨g, 1, none⟩ v1).setCell ⟨g, 2, none⟩ v2).setCell ⟨g, 3, none⟩ v3).heap[g]? = some (.cells #[v0, v1, v2, v3] 59 (0, 0)) := fun v0 v1 v2 v3 => by
    simp [World.setCell, Array.getElem?_modify, p3, zB]
  refine wp_skips (w' := (((W.setCell ⟨g, 0, none⟩ (.int .i64 s')).setCell ⟨g, 1, none⟩ (.string n')).setCell ⟨g, 2, none⟩ (.string t')).setCell ⟨g, 3, none⟩ (.slice A' n2 c2)) hds ?_ (hK undef _ ⟨g, { h with bel := hb _ _ _ _, cS := fun _ => h.cX dX, cP := fun _ => dP, fB := fun _ q => absurd (h.cX dX) (by rw [show d 3 = false from q]; decide), fP := fun _ => ⟨p1, p2, hcl _ _ _ _⟩ }⟩)
  clear hK hdep h hd hb hcl p3
  simp only [execOp, hop, e1, e2]
  go_simp
set_option maxRecDepth 100000 in
theorem stQ {o : Oper} (hg : o.guard = none) (hds : o.dst = some 14) (hop : o.op = .assign (.tmp 58)) (hs : 75 ≤ a.tmps.size) (hdY : 6 ∈ deps o) : StepAt Tryz.prog Q a sl (I w1 s s' nb tb n' t' A A' n c n2 c2 rb) 9 o := by
  refine ⟨⟨hg, by rw [hds]; decide⟩, ?_⟩
  rintro d u W ⟨g, h⟩ hd hdep K hK
  rw [hds] at hK
  have e1 := eval_new (a := a) (u := u) (slots := sl) (t := 58) (by decide) (by decide) (by omega)
  rw [h.fY (hdep 6 hdY)] at e1
  refine wp_yields (w' := W) hds (.bool rb) ?_ (hK _ _ ⟨g, { h with fQ := fun _ => rfl }⟩)
  clear hK hdep h hd
  simp only [execOp, hop, e1]
  go_simp
end
theorem N.start {w1 W : World} {s s' : Int} {nb tb n' t' : ByteArray} {A A' : Option Addr} {n c n2 c2 : Nat} {rb : Bool} {u : Nat → Value} (hb : Below w1.heap.size w1 W) : I w1 s s' nb tb n' t' A A' n c n2 c2 rb (fun _ => false) u W :=
  ⟨0, ⟨hb, nofun, nofun, nofun, nofun, nofun, nofun, nofun, nofun, nofun, nofun, nofun, nofun, nofun⟩⟩
end Go.Proofs.YtmmpojhjpghdlaaGreatDoor.Dv.I6
namespace Go.Proofs.YtmmpojhjpghdlaaGreatDoor.Dv.I7
open Go.Lib Go.RowKit Rg
open Xm (sv)
def sl : List Nat := [60, 61, 62, 63, 59, 64, 65, 15, 16]
abbrev EE (s : Int) (nb tb : ByteArray) (A : Option Addr) (n c : Nat) : Value := .agg #[.int .i64 s, .string nb, .string tb, .slice A n c]
structure N (w1 : World) (s s' : Int) (nb tb n' t' : ByteArray) (A A' : Option Addr) (n c n2 c2 : Nat) (rb : Bool) (g : Nat) (d : Nat → Bool) (u : Nat → Value) (W : World) : Prop where
  bel : Below w1.heap.size w1 W
  cM : d 4 = true → d 3 = true
  cX : d 5 = true → d 3 = true
  cS : d 8 = true → d 3 = true
  cP : d 8 = true → d 7 = true
  f0 : d 0 = true → u 60 = EE s nb tb A n c
  f1 : d 1 = true → u 61 = .agg #[.int .i64 1, .string ⟨#[114, 101, 115, 111, 117, 114, 99, 101, 116, 121, 112, 101]⟩]
  fB : d 2 = true → d 3 = false → NmsAt W (u 62) [((1 : Int), (⟨#[114, 101, 115, 111, 117, 114, 99, 101, 116, 121, 112, 101]⟩ : ByteArray))]
  fC : d 3 = true → u 63 = .tuple #[EE s' n' t' A' n2 c2, .bool rb]
  fM : d 4 = true → u 59 = .tuple #[EE s' n' t' A' n2 c2, .bool rb]
  fX : d 5 = true → u 64 = EE s' n' t' A' n2 c2
  fY : d 6 = true → u 65 = .bool rb
  fP : d 7 = true → u 15 = .pointer (some ⟨g, 0, none⟩) ∧ w1.heap.size ≤ g ∧ W.heap[g]? = some (bif d 8 then elB s' n' t' (.slice A' n2 c2) else zB)
  fQ : d 9 = true → u 16 = .bool rb
def I (w1 : World) (s s' : Int) (nb tb n' t' : ByteArray) (A A' : Option Addr) (n c n2 c2 : Nat) (rb : Bool) (d : Nat → Bool) (u : Nat → Value) (W : World) : Prop := ∃ g, N w1 s s' nb tb n' t' A A' n c n2 c2 rb g d u W
section
variable {Q : Exit → Act → World → Prop} {a : Act} {w1 : World} {s s' : Int} {nb tb n' t' : ByteArray} {A A' : Option Addr} {n c n2 c2 : Nat} {rb : Bool} {g : Nat} {d : Nat → Bool} {u : Nat → Value} {W : World}
theorem N.kept (h : N w1 s s' nb tb n' t' A A' n c n2 c2 rb g d u W) {W' : World} (hb : Below W.heap.size W W') : N w1 s s' nb tb n' t' A A' n c n2 c2 rb g d u W' :=
  { h with
    bel := Xm.below_then h.bel hb
    fB := fun h1 h2 => (h.fB h1 h2).kept hb
    fP := fun h1 => have k := h.fP h1; ⟨k.1, k.2.1, blk_at k.2.2 hb⟩ }
set_option maxRecDepth 100000 in
theorem st0 {o : Oper} (hg : o.guard = none) (hds : o.dst = some 60) (hop : o.op = .load 59 (.tmp 9)) (gs : Nat) (h5 : a.eval (.tmp 9) = .pointer (some ⟨gs, 0, none⟩)) (hc : ∀ W, Below w1.heap.size w1 W → W.heap[gs]? = some (elB s nb tb (.slice A n c))) : StepAt Tryz.prog Q a sl (I w1 s s' nb tb n' t' A A' n c n2 c2 rb) 0 o := by
  refine ⟨⟨hg, by rw [hds]; decide⟩, ?_⟩
  rintro d u W ⟨g, h⟩ hd hdep K hK
  rw [hds] at hK
  have e2 := eval_old (u := u) (slots := sl) (by decide) h5
  obtain ⟨x0, x1, x2, x3, _⟩ := cellsE (hc W h.bel)
  refine wp_yields (w' := W) hds (EE s nb tb A n c) ?_ (hK _ _ ⟨g, { h with f0 := fun _ => rfl }⟩)
  clear hK hdep h hd hc
  simp only [execOp, hop, e2]
  go_simp
set_option maxRecDepth 100000 in
theorem st1 {o : Oper} (hg : o.guard = none) (hds : o.dst = some 61) (hop : o.op = .call { callee := .value (.func 40), args := #[.const (.string ⟨#[114, 101, 115, 111, 117, 114, 99, 101, 116, 121, 112, 101]⟩)], argTypes := #[9] }) : StepAt Tryz.prog Q a sl (I w1 s s' nb tb n' t' A A' n c n2 c2 rb) 1 o := by
  refine ⟨⟨hg, by rw [hds]; decide⟩, ?_⟩
  rintro d u W ⟨g, h⟩ hd hdep K hK
  rw [hds] at hK
  refine wp_callsD hds 40 #[.string ⟨#[114, 101, 115, 111, 117, 114, 99, 101, 116, 121, 112, 101]⟩] ?_ ((dav_any ⟨#[114, 101, 115, 111, 117, 114, 99, 101, 116, 121, 112, 101]⟩ W).mono ?_)
  · clear hK hdep h hd
    simp only [execOp, hop]
    go_simp
  · rintro e w' ⟨rfl, hb⟩
    exact ⟨_, rfl, hK _ _ ⟨g, { h.kept hb with f1 := fun _ => rfl }⟩⟩
theorem N.noC (h : N w1 s s' nb tb n' t' A A' n c n2 c2 rb g d u W) (h1 : d 3 = false) : d 4 = false ∧ d 5 = false ∧ d 8 = false := by
  refine ⟨?_, ?_, ?_⟩
  · cases hh : d 4 with
    | false => rfl
    | true => have := h.cM hh; rw [h1] at this; cases this
  · cases hh : d 5 with
    | false => rfl
    | true => have := h.cX hh; rw [h1] at this; cases this
  · cases hh : d 8 with
    | false => rfl
    | true => have := h.cS hh; rw [h1] at this; cases this
set_option maxRecDepth 100000 in
theorem stB {o : Oper} (hg : o.guard = none) (hds : o.dst = some 62) (hop : o.op = .buildSlice 27 1 #[(0, .tmp 61)]) (hs : 75 ≤ a.tmps.size) (hda1 : 1 ∈ deps o) : StepAt Tryz.prog Q a sl (I w1 s s' nb tb n' t' A A' n c n2 c2 rb) 2 o := by
  refine ⟨⟨hg, by rw [hds]; decide⟩, ?_⟩
  rintro d u W ⟨g, h⟩ hd hdep K hK
  rw [hds] at hK
  have e1 := eval_new (a := a) (u := u) (slots := sl) (t := 61) (by decide) (by decide) (by omega)
  rw [h.f1 (hdep 1 hda1)] at e1
  obtain ⟨ob, hob⟩ : ∃ ob, (Obj.cells #[.int .i64 1, .string ⟨#[114, 101, 115, 111, 117, 114, 99, 101, 116, 121, 112, 101]⟩] 24 (0, 0) : Obj) = ob := ⟨_, rfl⟩
  have hb : Below W.heap.size W (W.alloc ob) := (Below.refl _ _).alloc (Nat.le_refl _) _
  have hnm : NmsAt (W.alloc ob) (.slice (some ⟨W.heap.size, 0, none⟩) 1 1) [((1 : Int), (⟨#[114, 101, 115, 111, 117, 114, 99, 101, 116, 121, 112, 101]⟩ : ByteArray))] := by rw [← hob]; exact nms1 _ 1 ⟨#[114, 101, 115, 111, 117, 114, 99, 101, 116, 121, 112, 101]⟩
  refine wp_yields (w' := W.alloc ob) hds (.slice (some ⟨W.heap.size, 0, none⟩) 1 1) ?_ (hK _ _ ⟨g, { h.kept hb with fB := fun _ _ => hnm }⟩)
  subst hob
  clear hK hdep h hd hnm
  simp only [execOp, hop, List.map_toArray, List.map_cons, List.map_nil, e1]
  go_simp
set_option maxRecDepth 100000 in
theorem stC {o : Oper} (hg : o.guard = none) (hds : o.dst = some 63) (hop : o.op = .call { callee := .value (.func 64), args := #[.tmp 60, .tmp 62], argTypes := #[59, 27] }) (hs : 75 ≤ a.tmps.size) (hd0 : 0 ∈ deps o) (hdB : 2 ∈ deps o)
    (cO : ∀ W v, Below w1.heap.size w1 W → NmsAt W v [((1 : Int), (⟨#[114, 101, 115, 111, 117, 114, 99, 101, 116, 121, 112, 101]⟩ : ByteArray))] → Calls Tryz.prog 64 #[EE s nb tb A n c, v] W fun e w' => e = .returned (.tuple #[EE s' n' t' A' n2 c2, .bool rb]) ∧ Below W.heap.size W w') : StepAt Tryz.prog Q a sl (I w1 s s' nb tb n' t' A A' n c n2 c2 rb) 3 o := by
  refine ⟨⟨hg, by rw [hds]; decide⟩, ?_⟩
  rintro d u W ⟨g, h⟩ hd hdep K hK
  rw [hds] at hK
  have e1 := eval_new (a := a) (u := u) (slots := sl) (t := 60) (by decide) (by decide) (by omega)
  have e2 := eval_new (a := a) (u := u) (slots := sl) (t := 62) (by decide) (by decide) (by omega)
  rw [h.f0 (hdep 0 hd0)] at e1
  have hn := h.fB (hdep 2 hdB) hd
  have hC := cO W _ h.bel hn
  obtain ⟨b, hbv, _⟩ := hn
  rw [hbv] at e2 hC
  refine wp_callsD hds 64 _ ?_ (hC.mono ?_)
  · clear hK hdep h hd cO hC
    replace e1 := tmpE e1
    replace e2 := tmpE e2
    simp only [execOp, hop]
    go_simp
  · rintro e w' ⟨rfl, hb⟩
    exact ⟨_, rfl, hK _ _ ⟨g, { h.kept hb with cM := fun _ => rfl, cX := fun _ => rfl, cS := fun _ => rfl, fB := fun _ q => Bool.noConfusion (show true = false from q), fC := fun _ => rfl }⟩⟩
set_option maxRecDepth 100000 in
theorem stM {o : Oper} (hg : o.guard = none) (hds : o.dst = some 59) (hop : o.op = .move (.tmp 63)) (hs : 75 ≤ a.tmps.size) (hdC : 3 ∈ deps o) : StepAt Tryz.prog Q a sl (I w1 s s' nb tb n' t' A A' n c n2 c2 rb) 4 o := by
  refine ⟨⟨hg, by rw [hds]; decide⟩, ?_⟩
  rintro d u W ⟨g, h⟩ hd hdep K hK
  rw [hds] at hK
  have e1 := eval_new (a := a) (u := u) (slots := sl) (t := 63) (by decide) (by decide) (by omega)
  rw [h.fC (hdep 3 hdC)] at e1
  refine wp_yields (w' := W) hds (.tuple #[EE s' n' t' A' n2 c2, .bool rb]) ?_ (hK _ _ ⟨g, { h with cM := fun _ => hdep 3 hdC, fM := fun _ => rfl }⟩)
  clear hK hdep h hd
  simp only [execOp, hop, e1]
  go_simp
set_option maxRecDepth 100000 in
theorem stX {o : Oper} (hg : o.guard = none) (hds : o.dst = some 64) (hop : o.op = .extract (.tmp 59) 0) (hs : 75 ≤ a.tmps.size) (hdM : 4 ∈ deps o) : StepAt Tryz.prog Q a sl (I w1 s s' nb tb n' t' A A' n c n2 c2 rb) 5 o := by
  refine ⟨⟨hg, by rw [hds]; decide⟩, ?_⟩
  rintro d u W ⟨g, h⟩ hd hdep K hK
  rw [hds] at hK
  have e1 := eval_new (a := a) (u := u) (slots := sl) (t := 59) (by decide) (by decide) (by omega)
  rw [h.fM (hdep 4 hdM)] at e1
  refine wp_yields (w' := W) hds (EE s' n' t' A' n2 c2) ?_ (hK _ _ ⟨g, { h with cX := fun _ => h.cM (hdep 4 hdM), fX := fun _ => rfl }⟩)
  clear hK hdep h hd
  simp only [execOp, hop, e1]
  go_simp
set_option maxRecDepth 100000 in
theorem stY {o : Oper} (hg : o.guard = none) (hds : o.dst = some 65) (hop : o.op = .extract (.tmp 59) 1) (hs : 75 ≤ a.tmps.size) (hdM : 4 ∈ deps o) : StepAt Tryz.prog Q a sl (I w1 s s' nb tb n' t' A A' n c n2 c2 rb) 6 o := by
  refine ⟨⟨hg, by rw [hds]; decide⟩, ?_⟩
  rintro d u W ⟨g, h⟩ hd hdep K hK
  rw [hds] at hK
  have e1 := eval_new (a := a) (u := u) (slots := sl) (t := 59) (by decide) (by decide) (by omega)
  rw [h.fM (hdep 4 hdM)] at e1
  refine wp_yields (w' := W) hds (.bool rb) ?_ (hK _ _ ⟨g, { h with fY := fun _ => rfl }⟩)
  clear hK hdep h hd
  simp only [execOp, hop, e1]
  go_simp
set_option maxRecDepth 100000 in
theorem stP {o : Oper} (hg : o.guard = none) (hds : o.dst = some 15) (hop : o.op = .alloc 59) : StepAt Tryz.prog Q a sl (I w1 s s' nb tb n' t' A A' n c n2 c2 rb) 7 o := by
  refine ⟨⟨hg, by rw [hds]; decide⟩, ?_⟩
  rintro d u W ⟨g, h⟩ hd hdep K hK
  rw [hds] at hK
  have hb : Below W.heap.size W (W.alloc zB) := (Below.refl _ _).alloc (Nat.le_refl _) _
  have hS : d 8 = false := by
    cases hh : d 8 with
    | false => rfl
    | true => have := h.cP hh; rw [hd] at this; cases this
  refine wp_yields (w' := W.alloc zB) hds (.pointer (some ⟨W.heap.size, 0, none⟩)) ?_ (hK _ _ ⟨W.heap.size, { h.kept hb with cP := fun _ => rfl, fP := fun _ => ⟨rfl, h.bel.size, ?_⟩ }⟩)
  · clear hK hdep h hd hS hb
    unfold zB
    simp only [execOp, hop]
    go_simp
  · show _ = some (bif d 8 then _ else _)
    rw [hS]
    exact heap_alloc_new W _
set_option maxRecDepth 100000 in
theorem stS {o : Oper} (hg : o.guard = none) (hds : o.dst = none) (hop : o.op = .store 59 (.tmp 15) (.tmp 64)) (hs : 75 ≤ a.tmps.size) (hdX : 5 ∈ deps o) (hdP : 7 ∈ deps o) : StepAt Tryz.prog Q a sl (I w1 s s' nb tb n' t' A A' n c n2 c2 rb) 8 o := by
  refine ⟨⟨hg, by rw [hds]; rfl⟩, ?_⟩
  rintro d u W ⟨g, h⟩ hd hdep K hK
  rw [hds] at hK
  have dX := hdep 5 hdX
  have dP := hdep 7 hdP
  have e1 := eval_new (a := a) (u := u) (slots := sl) (t := 15) (by decide) (by decide) (by omega)
  have e2 := eval_new (a := a) (u := u) (slots := sl) (t := 64) (by decide) (by decide) (by omega)
  obtain ⟨p1, p2, p3⟩ := h.fP dP
  rw [p1] at e1
  rw [h.fX dX] at e2
  rw [hd] at p3
  have p3 : W.heap[g]? = some zB := p3
  obtain ⟨z0, z1, z2, z3, y0, y1, y2, y3, _⟩ := cellsE p3
  have hb : ∀ v0 v1 v2 v3, Below w1.heap.size w1 ((((W.setCell ⟨g, 0, none⟩ v0).setCell ⟨g, 1, none⟩ v1).setCell ⟨g, 2, none⟩ v2).setCell ⟨g, 3, none⟩ v3) := fun v0 v1 v2 v3 =>
    (((h.bel.setCell (p := ⟨g, 0, none⟩) p2 _).setCell (p := ⟨g, 1, none⟩) p2 _).setCell (p := ⟨g, 2, none⟩) p2 _).setCell (p := ⟨g, 3, none⟩) p2 _
  have hcl : ∀ v0 v1 v2 v3, ((((W.setCell ⟨g, 0, none⟩ v0).setCell ⟨g, 1, none⟩ v1).setCell ⟨g, 2, none⟩ v2).setCell ⟨g, 3, none⟩ v3).heap[g]? = some (.cells #[v0, v1, v2, v3] 59 (0, 0)) := fun v0 v1 v2 v3 => by
    simp [World.setCell, Array.getElem?_modify, p3, zB]
  refine wp_skips (w' := (((W.setCell ⟨g, 0, none⟩ (.int .i64 s')).setCell ⟨g, 1, none⟩ (.string n')).setCell ⟨g, 2, none⟩ (.string t')).setCell ⟨g, 3, none⟩ (.slice A' n2 c2)) hds ?_ (hK undef _ ⟨g, { h with bel := hb _ _ _ _, cS := fun _ => h.cX dX, cP := fun _ => dP, fB := fun _ q => absurd (h.cX dX) (by rw [show d 3 = false from q]; decide), fP := fun _ => ⟨p1, p2, hcl _ _ _ _⟩ }⟩)
  clear hK hdep h hd hb hcl p3
  simp only [execOp, hop, e1, e2]
  go_simp
set_option maxRecDepth 100000 in
theorem stQ {o : Oper} (hg : o.guard = none) (hds : o.dst = some 16) (hop : o.op = .assign (.tmp 65)) (hs : 75 ≤ a.tmps.size) (hdY : 6 ∈ deps o) : StepAt Tryz.prog Q a sl (I w1 s s' nb tb n' t' A A' n c n2 c2 rb) 9 o := by
  refine ⟨⟨hg, by rw [hds]; decide⟩, ?_⟩
  rintro d u W ⟨g, h⟩ hd hdep K hK
  rw [hds] at hK
  have e1 := eval_new (a := a) (u := u) (slots := sl) (t := 65) (by decide) (by decide) (by omega)
  rw [h.fY (hdep 6 hdY)] at e1
  refine wp_yields (w' := W) hds (.bool rb) ?_ (hK _ _ ⟨g, { h with fQ := fun _ => rfl }⟩)
  clear hK hdep h hd
  simp only [execOp, hop, e1]
  go_simp
end
theorem N.start {w1 W : World} {s s' : Int} {nb tb n' t' : ByteArray} {A A' : Option Addr} {n c n2 c2 : Nat} {rb : Bool} {u : Nat → Value} (hb : Below w1.heap.size w1 W) : I w1 s s' nb tb n' t' A A' n c n2 c2 rb (fun _ => false) u W :=
  ⟨0, ⟨hb, nofun, nofun, nofun, nofun, nofun, nofun, nofun, nofun, nofun, nofun, nofun, nofun, nofun⟩⟩
end Go.Proofs.YtmmpojhjpghdlaaGreatDoor.Dv.I7

/-
  only, IN THE WORDS OF TREES: the one element that has one of the names.
-/
set_option linter.unusedVariables false
namespace Go.Proofs.YtmmpojhjpghdlaaGreatDoor.Dv
open Go.Lib Go.RowKit
open Xm (Row Pc sv PsOwn PcsAt PcCells below_then below_drewN sv_some sv_str)

abbrev AnyB : Nat → Prop := fun _ => True
def Sm (x : El) : Prop := (pcE x).length ≤ 1099511627776
theorem pcE_kid {x : El} : ∀ {ks : List El}, x ∈ ks → (pcE x).length ≤ (pcEs ks).length
  | [], h => by cases h
  | y :: r, h => by
    rw [pcEs, List.length_append]
    rcases List.mem_cons.1 h with rfl | h
    · omega
    · have := pcE_kid h; omega
theorem Sm.kids {x : El} (h : Sm x) : (pcEs x.ks).length ≤ 1099511627776 := by
  obtain ⟨s, n, t, ks⟩ := x
  unfold Sm at h
  rw [pcE] at h
  simp only [List.length_cons, List.length_append] at h
  show (pcEs ks).length ≤ _
  omega
theorem Sm.len {x : El} (h : Sm x) : x.ks.length ≤ 1099511627776 := Nat.le_trans (ks_len _) h.kids
theorem Sm.kid {x y : El} (h : Sm x) (hy : y ∈ x.ks) : Sm y := Nat.le_trans (pcE_kid hy) h.kids
theorem sm_zero : Sm El.zero := by unfold Sm El.zero; rw [pcE, pcEs]; decide
theorem onlyP_mem (ns : List Nm) (ks : List El) : (onlyP ns ks).1 = El.zero ∨ (onlyP ns ks).1 ∈ ks := by
  unfold onlyP
  split
  · rename_i e h
    right
    have : e ∈ nmd ns ks := by rw [h]; simp
    unfold nmd at this
    exact (List.mem_filter.1 this).1
  · exact .inl rfl
theorem Sm.only {x : El} (h : Sm x) (ns : List Nm) : Sm (onlyP ns x.ks).1 := by
  rcases onlyP_mem ns x.ks with e | e
  · rw [e]; exact sm_zero
  · exact h.kid e
/-- elements by value and the elements that they are -/
def Pairs (w : World) (L : List EV) (es : List El) : Prop := L.length = es.length ∧ ∀ (j : Nat) (e : EV) (x : El), L[j]? = some e → es[j]? = some x → Like e x ∧ KidsAt AnyB w e.k x.ks
theorem Pairs.filter {w : World} {ns : List NB} : ∀ {L : List EV} {es : List El}, Pairs w L es → Pairs w (namedV ns L) (nmd (ns.map nmR) es)
  | [], [], _ => ⟨rfl, fun j e x h => by simp [namedV] at h⟩
  | [], _ :: _, h => by have := h.1; simp at this
  | _ :: _, [], h => by have := h.1; simp at this
  | e :: L, x :: es, h => by
    have h0 := h.2 0 e x rfl rfl
    have ht : Pairs w L es := ⟨by have := h.1; simp at this; exact this, fun j e' x' h1 h2 => h.2 (j + 1) e' x' (by simpa using h1) (by simpa using h2)⟩
    have ih := Pairs.filter (ns := ns) ht
    have hin : inN ns e = (ns.map nmR).contains (x.s, x.n) := by
      unfold inN hasN
      rw [h0.1.1, h0.1.2.1]
    unfold namedV nmd at ih ⊢
    cases hc : (ns.map nmR).contains (x.s, x.n)
    · rw [List.filter_cons_of_neg (by rw [hin, hc]; decide), List.filter_cons_of_neg (by rw [hc]; decide)]
      exact ih
    · rw [List.filter_cons_of_pos (by rw [hin, hc]), List.filter_cons_of_pos (p := fun k : El => (List.map nmR ns).contains (k.s, k.n)) hc]
      refine ⟨by simp [ih.1], fun j e' x' h1 h2 => ?_⟩
      cases j with
      | zero => simp at h1 h2; subst h1; subst h2; exact h0
      | succ j => exact ih.2 j e' x' (by simpa using h1) (by simpa using h2)
theorem KidsAt.pairs {w : World} {v : Value} {es : List El} (h : KidsAt AnyB w v es) : ∃ L, EsAt AnyB w v L ∧ Pairs w L es := by
  obtain ⟨_, L, _, h1, h2, h3, h4⟩ := h
  exact ⟨L, h1, h2, fun j e x q1 q2 => ⟨h3 j e x q1 q2, h4 j e x q1 q2⟩⟩
theorem Pairs.forms {w : World} {L : List EV} {es : List El} (h : Pairs w L es) : Forms L := fun j e hj => by
  have hl := (List.getElem?_eq_some_iff.1 hj).1
  have hx : es[j]? = some (es[j]'(by have := h.1; omega)) := List.getElem?_eq_getElem _
  obtain ⟨A, k, q⟩ := (h.2 j e _ hj hx).2.form
  exact ⟨A, _, k, q⟩
/-- an element as it stands in a box or as an argument; its kids in w -/
structure ElB (w : World) (x : El) (nb tb : ByteArray) (A : Option Addr) (n c : Nat) : Prop where
  nm : sv x.n = .string nb
  tx : sv x.t = .string tb
  kids : KidsAt AnyB w (.slice A n c) x.ks
  sm : Sm x
theorem elB_of {w : World} {x : El} {e : EV} (hl : Like e x) (hk : KidsAt AnyB w e.k x.ks) (hs : Sm x) : ∃ nb tb A n c, ElB w x nb tb A n c ∧ ev e = .agg #[.int .i64 x.s, .string nb, .string tb, .slice A n c] := by
  obtain ⟨nb, e1, _⟩ := sv_some x.n
  obtain ⟨tb, e2, _⟩ := sv_some x.t
  obtain ⟨A, k, q⟩ := hk.form
  rw [q] at hk
  refine ⟨nb, tb, A, _, k, ⟨e1, e2, hk, hs⟩, ?_⟩
  unfold ev
  rw [hl.1, hl.2.1, hl.2.2, e1, e2, q]
theorem kids_zero (w : World) : KidsAt AnyB w (.slice none 0 0) [] := .mk _ [] [] (EsAt.nil _ _) rfl (fun j e x h => by simp at h) (fun j e x h => by simp at h)
theorem only_el {w0 : World} {x : El} {nb tb : ByteArray} {A : Option Addr} {n c : Nat} (h : ElB w0 x nb tb A n c) (ns : List NB) :
    ∃ nb' tb' A' n' c', ElB w0 (onlyP (ns.map nmR) x.ks).1 nb' tb' A' n' c' ∧
      ∀ (W : World) (v : Value), Below w0.heap.size w0 W → NmsAt W v ns → Calls Tryz.prog 64 #[.agg #[.int .i64 x.s, .string nb, .string tb, .slice A n c], v] W fun e w' => e = .returned (.tuple #[.agg #[.int .i64 (onlyP (ns.map nmR) x.ks).1.s, .string nb', .string tb', .slice A' n' c'], .bool (onlyP (ns.map nmR) x.ks).2]) ∧ Below W.heap.size W w' := by
  obtain ⟨L, h1, h2⟩ := h.kids.pairs
  have hf := h2.filter (ns := ns)
  have hsm := h.sm.only (ns.map nmR)
  have key : Like (onlyV ns L).1 (onlyP (ns.map nmR) x.ks).1 ∧ KidsAt AnyB w0 (onlyV ns L).1.k (onlyP (ns.map nmR) x.ks).1.ks ∧ (onlyV ns L).2 = (onlyP (ns.map nmR) x.ks).2 := by
    unfold onlyV onlyP
    cases hV : namedV ns L with
    | nil =>
      have e : nmd (ns.map nmR) x.ks = [] := List.eq_nil_of_length_eq_zero (by rw [← hf.1, hV]; rfl)
      rw [e]
      exact ⟨⟨rfl, rfl, rfl⟩, kids_zero w0, rfl⟩
    | cons a r =>
      cases r with
      | nil =>
        have hl : (nmd (ns.map nmR) x.ks).length = 1 := by rw [← hf.1, hV]; rfl
        obtain ⟨y, hy⟩ := List.length_eq_one_iff.1 hl
        rw [hy]
        have := hf.2 0 a y (by rw [hV]; rfl) (by rw [hy]; rfl)
        exact ⟨this.1, this.2, rfl⟩
      | cons b r =>
        have hl : 2 ≤ (nmd (ns.map nmR) x.ks).length := by rw [← hf.1, hV]; simp
        cases hN : nmd (ns.map nmR) x.ks with
        | nil => rw [hN] at hl; simp at hl
        | cons p q =>
          cases q with
          | nil => rw [hN] at hl; simp at hl
          | cons p' q => exact ⟨⟨rfl, rfl, rfl⟩, kids_zero w0, rfl⟩
  obtain ⟨nb', tb', A', n', c', q1, q2⟩ := elB_of key.1 key.2.1 hsm
  refine ⟨nb', tb', A', n', c', q1, fun W v hW hn => ?_⟩
  have hc := only_any x.s nb tb (.slice A n c) v L ns W (h1.same hW.size fun k _ hk => hW.block k hk) h2.forms (by have := h.sm.len; have := h2.1; omega) hn
  rw [q2, key.2.2] at hc
  exact hc
end Go.Proofs.YtmmpojhjpghdlaaGreatDoor.Dv
