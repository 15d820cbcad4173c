import Derived.Test.YtmmpojhjpghdlaaGreatDoorMg10

/-
  REGIONS 'x, ok := e.only(..)' OF dav.itemOf (written by tools/gendavreg.py): each by an invariant (RegInv), operation by operation.
-/
set_option linter.unusedVariables false
namespace Go.Proofs.YtmmpojhjpghdlaaGreatDoor.Dv.I1
open Go.Lib Go.RowKit Rg
open Xm (sv)
def sl : List Nat := [18, 19, 20, 21, 17, 22, 23, 3, 4]
abbrev EE (s : Int) (nb tb : ByteArray) (A : Option Addr) (n c : Nat) : Value := .agg #[.int .i64 s, .string nb, .string tb, .slice A n c]
structure N (w1 : World) (s s' : Int) (nb tb n' t' : ByteArray) (A A' : Option Addr) (n c n2 c2 : Nat) (rb : Bool) (g : Nat) (d : Nat → Bool) (u : Nat → Value) (W : World) : Prop where
  bel : Below w1.heap.size w1 W
  cM : d 4 = true → d 3 = true
  cX : d 5 = true → d 3 = true
  cS : d 8 = true → d 3 = true
  cP : d 8 = true → d 7 = true
  f0 : d 0 = true → u 18 = EE s nb tb A n c
  f1 : d 1 = true → u 19 = .agg #[.int .i64 1, .string ⟨#[104, 114, 101, 102]⟩]
  fB : d 2 = true → d 3 = false → NmsAt W (u 20) [((1 : Int), (⟨#[104, 114, 101, 102]⟩ : ByteArray))]
  fC : d 3 = true → u 21 = .tuple #[EE s' n' t' A' n2 c2, .bool rb]
  fM : d 4 = true → u 17 = .tuple #[EE s' n' t' A' n2 c2, .bool rb]
  fX : d 5 = true → u 22 = EE s' n' t' A' n2 c2
  fY : d 6 = true → u 23 = .bool rb
  fP : d 7 = true → u 3 = .pointer (some ⟨g, 0, none⟩) ∧ w1.heap.size ≤ g ∧ W.heap[g]? = some (bif d 8 then elB s' n' t' (.slice A' n2 c2) else zB)
  fQ : d 9 = true → u 4 = .bool rb
def I (w1 : World) (s s' : Int) (nb tb n' t' : ByteArray) (A A' : Option Addr) (n c n2 c2 : Nat) (rb : Bool) (d : Nat → Bool) (u : Nat → Value) (W : World) : Prop := ∃ g, N w1 s s' nb tb n' t' A A' n c n2 c2 rb g d u W
section
variable {Q : Exit → Act → World → Prop} {a : Act} {w1 : World} {s s' : Int} {nb tb n' t' : ByteArray} {A A' : Option Addr} {n c n2 c2 : Nat} {rb : Bool} {g : Nat} {d : Nat → Bool} {u : Nat → Value} {W : World}
theorem N.kept (h : N w1 s s' nb tb n' t' A A' n c n2 c2 rb g d u W) {W' : World} (hb : Below W.heap.size W W') : N w1 s s' nb tb n' t' A A' n c n2 c2 rb g d u W' :=
  { h with
    bel := Xm.below_then h.bel hb
    fB := fun h1 h2 => (h.fB h1 h2).kept hb
    fP := fun h1 => have k := h.fP h1; ⟨k.1, k.2.1, blk_at k.2.2 hb⟩ }
set_option maxRecDepth 100000 in
theorem st0 {o : Oper} (hg : o.guard = none) (hds : o.dst = some 18) (hop : o.op = .load 59 (.tmp 1)) (gs : Nat) (h5 : a.eval (.tmp 1) = .pointer (some ⟨gs, 0, none⟩)) (hc : ∀ W, Below w1.heap.size w1 W → W.heap[gs]? = some (elB s nb tb (.slice A n c))) : StepAt Tryz.prog Q a sl (I w1 s s' nb tb n' t' A A' n c n2 c2 rb) 0 o := by
  refine ⟨⟨hg, by rw [hds]; decide⟩, ?_⟩
  rintro d u W ⟨g, h⟩ hd hdep K hK
  rw [hds] at hK
  have e2 := eval_old (u := u) (slots := sl) (by decide) h5
  obtain ⟨x0, x1, x2, x3, _⟩ := cellsE (hc W h.bel)
  refine wp_yields (w' := W) hds (EE s nb tb A n c) ?_ (hK _ _ ⟨g, { h with f0 := fun _ => rfl }⟩)
  clear hK hdep h hd hc
  simp only [execOp, hop, e2]
  go_simp
set_option maxRecDepth 100000 in
theorem st1 {o : Oper} (hg : o.guard = none) (hds : o.dst = some 19) (hop : o.op = .call { callee := .value (.func 40), args := #[.const (.string ⟨#[104, 114, 101, 102]⟩)], argTypes := #[9] }) : StepAt Tryz.prog Q a sl (I w1 s s' nb tb n' t' A A' n c n2 c2 rb) 1 o := by
  refine ⟨⟨hg, by rw [hds]; decide⟩, ?_⟩
  rintro d u W ⟨g, h⟩ hd hdep K hK
  rw [hds] at hK
  refine wp_callsD hds 40 #[.string ⟨#[104, 114, 101, 102]⟩] ?_ ((dav_any ⟨#[104, 114, 101, 102]⟩ W).mono ?_)
  · clear hK hdep h hd
    simp only [execOp, hop]
    go_simp
  · rintro e w' ⟨rfl, hb⟩
    exact ⟨_, rfl, hK _ _ ⟨g, { h.kept hb with f1 := fun _ => rfl }⟩⟩
theorem N.noC (h : N w1 s s' nb tb n' t' A A' n c n2 c2 rb g d u W) (h1 : d 3 = false) : d 4 = false ∧ d 5 = false ∧ d 8 = false := by
  refine ⟨?_, ?_, ?_⟩
  · cases hh : d 4 with
    | false => rfl
    | true => have := h.cM hh; rw [h1] at this; cases this
  · cases hh : d 5 with
    | false => rfl
    | true => have := h.cX hh; rw [h1] at this; cases this
  · cases hh : d 8 with
    | false => rfl
    | true => have := h.cS hh; rw [h1] at this; cases this
set_option maxRecDepth 100000 in
theorem stB {o : Oper} (hg : o.guard = none) (hds : o.dst = some 20) (hop : o.op = .buildSlice 27 1 #[(0, .tmp 19)]) (hs : 75 ≤ a.tmps.size) (hda1 : 1 ∈ deps o) : StepAt Tryz.prog Q a sl (I w1 s s' nb tb n' t' A A' n c n2 c2 rb) 2 o := by
  refine ⟨⟨hg, by rw [hds]; decide⟩, ?_⟩
  rintro d u W ⟨g, h⟩ hd hdep K hK
  rw [hds] at hK
  have e1 := eval_new (a := a) (u := u) (slots := sl) (t := 19) (by decide) (by decide) (by omega)
  rw [h.f1 (hdep 1 hda1)] at e1
  obtain ⟨ob, hob⟩ : ∃ ob, (Obj.cells #[.int .i64 1, .string ⟨#[104, 114, 101, 102]⟩] 24 (0, 0) : Obj) = ob := ⟨_, rfl⟩
  have hb : Below W.heap.size W (W.alloc ob) := (Below.refl _ _).alloc (Nat.le_refl _) _
  have hnm : NmsAt (W.alloc ob) (.slice (some ⟨W.heap.size, 0, none⟩) 1 1) [((1 : Int), (⟨#[104, 114, 101, 102]⟩ : ByteArray))] := by rw [← hob]; exact nms1 _ 1 ⟨#[104, 114, 101, 102]⟩
  refine wp_yields (w' := W.alloc ob) hds (.slice (some ⟨W.heap.size, 0, none⟩) 1 1) ?_ (hK _ _ ⟨g, { h.kept hb with fB := fun _ _ => hnm }⟩)
  subst hob
  clear hK hdep h hd hnm
  simp only [execOp, hop, List.map_toArray, List.map_cons, List.map_nil, e1]
  go_simp
set_option maxRecDepth 100000 in
theorem stC {o : Oper} (hg : o.guard = none) (hds : o.dst = some 21) (hop : o.op = .call { callee := .value (.func 64), args := #[.tmp 18, .tmp 20], argTypes := #[59, 27] }) (hs : 75 ≤ a.tmps.size) (hd0 : 0 ∈ deps o) (hdB : 2 ∈ deps o)
    (cO : ∀ W v, Below w1.heap.size w1 W → NmsAt W v [((1 : Int), (⟨#[104, 114, 101, 102]⟩ : ByteArray))] → Calls Tryz.prog 64 #[EE s nb tb A n c, v] W fun e w' => e = .returned (.tuple #[EE s' n' t' A' n2 c2, .bool rb]) ∧ Below W.heap.size W w') : StepAt Tryz.prog Q a sl (I w1 s s' nb tb n' t' A A' n c n2 c2 rb) 3 o := by
  refine ⟨⟨hg, by rw [hds]; decide⟩, ?_⟩
  rintro d u W ⟨g, h⟩ hd hdep K hK
  rw [hds] at hK
  have e1 := eval_new (a := a) (u := u) (slots := sl) (t := 18) (by decide) (by decide) (by omega)
  have e2 := eval_new (a := a) (u := u) (slots := sl) (t := 20) (by decide) (by decide) (by omega)
  rw [h.f0 (hdep 0 hd0)] at e1
  have hn := h.fB (hdep 2 hdB) hd
  have hC := cO W _ h.bel hn
  obtain ⟨b, hbv, _⟩ := hn
  rw [hbv] at e2 hC
  refine wp_callsD hds 64 _ ?_ (hC.mono ?_)
  · clear hK hdep h hd cO hC
    replace e1 := tmpE e1
    replace e2 := tmpE e2
    simp only [execOp, hop]
    go_simp
  · rintro e w' ⟨rfl, hb⟩
    exact ⟨_, rfl, hK _ _ ⟨g, { h.kept hb with cM := fun _ => rfl, cX := fun _ => rfl, cS := fun _ => rfl, fB := fun _ q => Bool.noConfusion (show true = false from q), fC := fun _ => rfl }⟩⟩
set_option maxRecDepth 100000 in
theorem stM {o : Oper} (hg : o.guard = none) (hds : o.dst = some 17) (hop : o.op = .move (.tmp 21)) (hs : 75 ≤ a.tmps.size) (hdC : 3 ∈ deps o) : StepAt Tryz.prog Q a sl (I w1 s s' nb tb n' t' A A' n c n2 c2 rb) 4 o := by
  refine ⟨⟨hg, by rw [hds]; decide⟩, ?_⟩
  rintro d u W ⟨g, h⟩ hd hdep K hK
  rw [hds] at hK
  have e1 := eval_new (a := a) (u := u) (slots := sl) (t := 21) (by decide) (by decide) (by omega)
  rw [h.fC (hdep 3 hdC)] at e1
  refine wp_yields (w' := W) hds (.tuple #[EE s' n' t' A' n2 c2, .bool rb]) ?_ (hK _ _ ⟨g, { h with cM := fun _ => hdep 3 hdC, fM := fun _ => rfl }⟩)
  clear hK hdep h hd
  simp only [execOp, hop, e1]
  go_simp
set_option maxRecDepth 100000 in
theorem stX {o : Oper} (hg : o.guard = none) (hds : o.dst = some 22) (hop : o.op = .extract (.tmp 17) 0) (hs : 75 ≤ a.tmps.size) (hdM : 4 ∈ deps o) : StepAt Tryz.prog Q a sl (I w1 s s' nb tb n' t' A A' n c n2 c2 rb) 5 o := by
  refine ⟨⟨hg, by rw [hds]; decide⟩, ?_⟩
  rintro d u W ⟨g, h⟩ hd hdep K hK
  rw [hds] at hK
  have e1 := eval_new (a := a) (u := u) (slots := sl) (t := 17) (by decide) (by decide) (by omega)
  rw [h.fM (hdep 4 hdM)] at e1
  refine wp_yields (w' := W) hds (EE s' n' t' A' n2 c2) ?_ (hK _ _ ⟨g, { h with cX := fun _ => h.cM (hdep 4 hdM), fX := fun _ => rfl }⟩)
  clear hK hdep h hd
  simp only [execOp, hop, e1]
  go_simp
set_option maxRecDepth 100000 in
theorem stY {o : Oper} (hg : o.guard = none) (hds : o.dst = some 23) (hop : o.op = .extract (.tmp 17) 1) (hs : 75 ≤ a.tmps.size) (hdM : 4 ∈ deps o) : StepAt Tryz.prog Q a sl (I w1 s s' nb tb n' t' A A' n c n2 c2 rb) 6 o := by
  refine ⟨⟨hg, by rw [hds]; decide⟩, ?_⟩
  rintro d u W ⟨g, h⟩ hd hdep K hK
  rw [hds] at hK
  have e1 := eval_new (a := a) (u := u) (slots := sl) (t := 17) (by decide) (by decide) (by omega)
  rw [h.fM (hdep 4 hdM)] at e1
  refine wp_yields (w' := W) hds (.bool rb) ?_ (hK _ _ ⟨g, { h with fY := fun _ => rfl }⟩)
  clear hK hdep h hd
  simp only [execOp, hop, e1]
  go_simp
set_option maxRecDepth 100000 in
theorem stP {o : Oper} (hg : o.guard = none) (hds : o.dst = some 3) (hop : o.op = .alloc 59) : StepAt Tryz.prog Q a sl (I w1 s s' nb tb n' t' A A' n c n2 c2 rb) 7 o := by
  refine ⟨⟨hg, by rw [hds]; decide⟩, ?_⟩
  rintro d u W ⟨g, h⟩ hd hdep K hK
  rw [hds] at hK
  have hb : Below W.heap.size W (W.alloc zB) := (Below.refl _ _).alloc (Nat.le_refl _) _
  have hS : d 8 = false := by
    cases hh : d 8 with
    | false => rfl
    | true => have := h.cP hh; rw [hd] at this; cases this
  refine wp_yields (w' := W.alloc zB) hds (.pointer (some ⟨W.heap.size, 0, none⟩)) ?_ (hK _ _ ⟨W.heap.size, { h.kept hb with cP := fun _ => rfl, fP := fun _ => ⟨rfl, h.bel.size, ?_⟩ }⟩)
  · clear hK hdep h hd hS hb
    unfold zB
    simp only [execOp, hop]
    go_simp
  · show _ = some (bif d 8 then _ else _)
    rw [hS]
    exact heap_alloc_new W _
set_option maxRecDepth 100000 in
theorem stS {o : Oper} (hg : o.guard = none) (hds : o.dst = none) (hop : o.op = .store 59 (.tmp 3) (.tmp 22)) (hs : 75 ≤ a.tmps.size) (hdX : 5 ∈ deps o) (hdP : 7 ∈ deps o) : StepAt Tryz.prog Q a sl (I w1 s s' nb tb n' t' A A' n c n2 c2 rb) 8 o := by
  refine ⟨⟨hg, by rw [hds]; rfl⟩, ?_⟩
  rintro d u W ⟨g, h⟩ hd hdep K hK
  rw [hds] at hK
  have dX := hdep 5 hdX
  have dP := hdep 7 hdP
  have e1 := eval_new (a := a) (u := u) (slots := sl) (t := 3) (by decide) (by decide) (by omega)
  have e2 := eval_new (a := a) (u := u) (slots := sl) (t := 22) (by decide) (by decide) (by omega)
  obtain ⟨p1, p2, p3⟩ := h.fP dP
  rw [p1] at e1
  rw [h.fX dX] at e2
  rw [hd] at p3
  have p3 : W.heap[g]? = some zB := p3
  obtain ⟨z0, z1, z2, z3, y0, y1, y2, y3, _⟩ := cellsE p3
  have hb : ∀ v0 v1 v2 v3, Below w1.heap.size w1 ((((W.setCell ⟨g, 0, none⟩ v0).setCell ⟨g, 1, none⟩ v1).setCell ⟨g, 2, none⟩ v2).setCell ⟨g, 3, none⟩ v3) := fun v0 v1 v2 v3 =>
    (((h.bel.setCell (p := ⟨g, 0, none⟩) p2 _).setCell (p := ⟨g, 1, none⟩) p2 _).setCell (p := ⟨g, 2, none⟩) p2 _).setCell (p := ⟨g, 3, none⟩) p2 _
  have hcl : ∀ v0 v1 v2 v3, ((((W.setCell ⟨g, 0, none⟩ v0).setCell ⟨g, 1, none⟩ v1).setCell ⟨g, 2, none⟩ v2).setCell ⟨g, 3, none⟩ v3).heap[g]? = some (.cells #[v0, v1, v2, v3] 59 (0, 0)) := fun v0 v1 v2 v3 => by
    simp [World.setCell, Array.getElem?_modify, p3, zB]
  refine wp_skips (w' := (((W.setCell ⟨g, 0, none⟩ (.int .i64 s')).setCell ⟨g, 1, none⟩ (.string n')).setCell ⟨g, 2, none⟩ (.string t')).setCell ⟨g, 3, none⟩ (.slice A' n2 c2)) hds ?_ (hK undef _ ⟨g, { h with bel := hb _ _ _ _, cS := fun _ => h.cX dX, cP := fun _ => dP, fB := fun _ q => absurd (h.cX dX) (by rw [show d 3 = false from q]; decide), fP := fun _ => ⟨p1, p2, hcl _ _ _ _⟩ }⟩)
  clear hK hdep h hd hb hcl p3
  simp only [execOp, hop, e1, e2]
  go_simp
set_option maxRecDepth 100000 in
theorem stQ {o : Oper} (hg : o.guard = none) (hds : o.dst = some 4) (hop : o.op = .assign (.tmp 23)) (hs : 75 ≤ a.tmps.size) (hdY : 6 ∈ deps o) : StepAt Tryz.prog Q a sl (I w1 s s' nb tb n' t' A A' n c n2 c2 rb) 9 o := by
  refine ⟨⟨hg, by rw [hds]; decide⟩, ?_⟩
  rintro d u W ⟨g, h⟩ hd hdep K hK
  rw [hds] at hK
  have e1 := eval_new (a := a) (u := u) (slots := sl) (t := 23) (by decide) (by decide) (by omega)
  rw [h.fY (hdep 6 hdY)] at e1
  refine wp_yields (w' := W) hds (.bool rb) ?_ (hK _ _ ⟨g, { h with fQ := fun _ => rfl }⟩)
  clear hK hdep h hd
  simp only [execOp, hop, e1]
  go_simp
end
theorem N.start {w1 W : World} {s s' : Int} {nb tb n' t' : ByteArray} {A A' : Option Addr} {n c n2 c2 : Nat} {rb : Bool} {u : Nat → Value} (hb : Below w1.heap.size w1 W) : I w1 s s' nb tb n' t' A A' n c n2 c2 rb (fun _ => false) u W :=
  ⟨0, ⟨hb, nofun, nofun, nofun, nofun, nofun, nofun, nofun, nofun, nofun, nofun, nofun, nofun, nofun⟩⟩
end Go.Proofs.YtmmpojhjpghdlaaGreatDoor.Dv.I1
namespace Go.Proofs.YtmmpojhjpghdlaaGreatDoor.Dv.I2
open Go.Lib Go.RowKit Rg
open Xm (sv)
def sl : List Nat := [25, 26, 27, 28, 24, 29, 30, 5, 6]
abbrev EE (s : Int) (nb tb : ByteArray) (A : Option Addr) (n c : Nat) : Value := .agg #[.int .i64 s, .string nb, .string tb, .slice A n c]
structure N (w1 : World) (s s' : Int) (nb tb n' t' : ByteArray) (A A' : Option Addr) (n c n2 c2 : Nat) (rb : Bool) (g : Nat) (d : Nat → Bool) (u : Nat → Value) (W : World) : Prop where
  bel : Below w1.heap.size w1 W
  cM : d 4 = true → d 3 = true
  cX : d 5 = true → d 3 = true
  cS : d 8 = true → d 3 = true
  cP : d 8 = true → d 7 = true
  f0 : d 0 = true → u 25 = EE s nb tb A n c
  f1 : d 1 = true → u 26 = .agg #[.int .i64 1, .string ⟨#[115, 116, 97, 116, 117, 115]⟩]
  fB : d 2 = true → d 3 = false → NmsAt W (u 27) [((1 : Int), (⟨#[115, 116, 97, 116, 117, 115]⟩ : ByteArray))]
  fC : d 3 = true → u 28 = .tuple #[EE s' n' t' A' n2 c2, .bool rb]
  fM : d 4 = true → u 24 = .tuple #[EE s' n' t' A' n2 c2, .bool rb]
  fX : d 5 = true → u 29 = EE s' n' t' A' n2 c2
  fY : d 6 = true → u 30 = .bool rb
  fP : d 7 = true → u 5 = .pointer (some ⟨g, 0, none⟩) ∧ w1.heap.size ≤ g ∧ W.heap[g]? = some (bif d 8 then elB s' n' t' (.slice A' n2 c2) else zB)
  fQ : d 9 = true → u 6 = .bool rb
def I (w1 : World) (s s' : Int) (nb tb n' t' : ByteArray) (A A' : Option Addr) (n c n2 c2 : Nat) (rb : Bool) (d : Nat → Bool) (u : Nat → Value) (W : World) : Prop := ∃ g, N w1 s s' nb tb n' t' A A' n c n2 c2 rb g d u W
section
variable {Q : Exit → Act → World → Prop} {a : Act} {w1 : World} {s s' : Int} {nb tb n' t' : ByteArray} {A A' : Option Addr} {n c n2 c2 : Nat} {rb : Bool} {g : Nat} {d : Nat → Bool} {u : Nat → Value} {W : World}
theorem N.kept (h : N w1 s s' nb tb n' t' A A' n c n2 c2 rb g d u W) {W' : World} (hb : Below W.heap.size W W') : N w1 s s' nb tb n' t' A A' n c n2 c2 rb g d u W' :=
  { h with
    bel := Xm.below_then h.bel hb
    fB := fun h1 h2 => (h.fB h1 h2).kept hb
    fP := fun h1 => have k := h.fP h1; ⟨k.1, k.2.1, blk_at k.2.2 hb⟩ }
set_option maxRecDepth 100000 in
theorem st0 {o : Oper} (hg : o.guard = none) (hds : o.dst = some 25) (hop : o.op = .load 59 (.tmp 1)) (gs : Nat) (h5 : a.eval (.tmp 1) = .pointer (some ⟨gs, 0, none⟩)) (hc : ∀ W, Below w1.heap.size w1 W → W.heap[gs]? = some (elB s nb tb (.slice A n c))) : StepAt Tryz.prog Q a sl (I w1 s s' nb tb n' t' A A' n c n2 c2 rb) 0 o := by
  refine ⟨⟨hg, by rw [hds]; decide⟩, ?_⟩
  rintro d u W ⟨g, h⟩ hd hdep K hK
  rw [hds] at hK
  have e2 := eval_old (u := u) (slots := sl) (by decide) h5
  obtain ⟨x0, x1, x2, x3, _⟩ := cellsE (hc W h.bel)
  refine wp_yields (w' := W) hds (EE s nb tb A n c) ?_ (hK _ _ ⟨g, { h with f0 := fun _ => rfl }⟩)
  clear hK hdep h hd hc
  simp only [execOp, hop, e2]
  go_simp
set_option maxRecDepth 100000 in
theorem st1 {o : Oper} (hg : o.guard = none) (hds : o.dst = some 26) (hop : o.op = .call { callee := .value (.func 40), args := #[.const (.string ⟨#[115, 116, 97, 116, 117, 115]⟩)], argTypes := #[9] }) : StepAt Tryz.prog Q a sl (I w1 s s' nb tb n' t' A A' n c n2 c2 rb) 1 o := by
  refine ⟨⟨hg, by rw [hds]; decide⟩, ?_⟩
  rintro d u W ⟨g, h⟩ hd hdep K hK
  rw [hds] at hK
  refine wp_callsD hds 40 #[.string ⟨#[115, 116, 97, 116, 117, 115]⟩] ?_ ((dav_any ⟨#[115, 116, 97, 116, 117, 115]⟩ W).mono ?_)
  · clear hK hdep h hd
    simp only [execOp, hop]
    go_simp
  · rintro e w' ⟨rfl, hb⟩
    exact ⟨_, rfl, hK _ _ ⟨g, { h.kept hb with f1 := fun _ => rfl }⟩⟩
theorem N.noC (h : N w1 s s' nb tb n' t' A A' n c n2 c2 rb g d u W) (h1 : d 3 = false) : d 4 = false ∧ d 5 = false ∧ d 8 = false := by
  refine ⟨?_, ?_, ?_⟩
  · cases hh : d 4 with
    | false => rfl
    | true => have := h.cM hh; rw [h1] at this; cases this
  · cases hh : d 5 with
    | false => rfl
    | true => have := h.cX hh; rw [h1] at this; cases this
  · cases hh : d 8 with
    | false => rfl
    | true => have := h.cS hh; rw [h1] at this; cases this
set_option maxRecDepth 100000 in
theorem stB {o : Oper} (hg : o.guard = none) (hds : o.dst = some 27) (hop : o.op = .buildSlice 27 1 #[(0, .tmp 26)]) (hs : 75 ≤ a.tmps.size) (hda1 : 1 ∈ deps o) : StepAt Tryz.prog Q a sl (I w1 s s' nb tb n' t' A A' n c n2 c2 rb) 2 o := by
  refine ⟨⟨hg, by rw [hds]; decide⟩, ?_⟩
  rintro d u W ⟨g, h⟩ hd hdep K hK
  rw [hds] at hK
  have e1 := eval_new (a := a) (u := u) (slots := sl) (t := 26) (by decide) (by decide) (by omega)
  rw [h.f1 (hdep 1 hda1)] at e1
  obtain ⟨ob, hob⟩ : ∃ ob, (Obj.cells #[.int .i64 1, .string ⟨#[115, 116, 97, 116, 117, 115]⟩] 24 (0, 0) : Obj) = ob := ⟨_, rfl⟩
  have hb : Below W.heap.size W (W.alloc ob) := (Below.refl _ _).alloc (Nat.le_refl _) _
  have hnm : NmsAt (W.alloc ob) (.slice (some ⟨W.heap.size, 0, none⟩) 1 1) [((1 : Int), (⟨#[115, 116, 97, 116, 117, 115]⟩ : ByteArray))] := by rw [← hob]; exact nms1 _ 1 ⟨#[115, 116, 97, 116, 117, 115]⟩
  refine wp_yields (w' := W.alloc ob) hds (.slice (some ⟨W.heap.size, 0, none⟩) 1 1) ?_ (hK _ _ ⟨g, { h.kept hb with fB := fun _ _ => hnm }⟩)
  subst hob
  clear hK hdep h hd hnm
  simp only [execOp, hop, List.map_toArray, List.map_cons, List.map_nil, e1]
  go_simp
set_option maxRecDepth 100000 in
theorem stC {o : Oper} (hg : o.guard = none) (hds : o.dst = some 28) (hop : o.op = .call { callee := .value (.func 64), args := #[.tmp 25, .tmp 27], argTypes := #[59, 27] }) (hs : 75 ≤ a.tmps.size) (hd0 : 0 ∈ deps o) (hdB : 2 ∈ deps o)
    (cO : ∀ W v, Below w1.heap.size w1 W → NmsAt W v [((1 : Int), (⟨#[115, 116, 97, 116, 117, 115]⟩ : ByteArray))] → Calls Tryz.prog 64 #[EE s nb tb A n c, v] W fun e w' => e = .returned (.tuple #[EE s' n' t' A' n2 c2, .bool rb]) ∧ Below W.heap.size W w') : StepAt Tryz.prog Q a sl (I w1 s s' nb tb n' t' A A' n c n2 c2 rb) 3 o := by
  refine ⟨⟨hg, by rw [hds]; decide⟩, ?_⟩
  rintro d u W ⟨g, h⟩ hd hdep K hK
  rw [hds] at hK
  have e1 := eval_new (a := a) (u := u) (slots := sl) (t := 25) (by decide) (by decide) (by omega)
  have e2 := eval_new (a := a) (u := u) (slots := sl) (t := 27) (by decide) (by decide) (by omega)
  rw [h.f0 (hdep 0 hd0)] at e1
  have hn := h.fB (hdep 2 hdB) hd
  have hC := cO W _ h.bel hn
  obtain ⟨b, hbv, _⟩ := hn
  rw [hbv] at e2 hC
  refine wp_callsD hds 64 _ ?_ (hC.mono ?_)
  · clear hK hdep h hd cO hC
    replace e1 := tmpE e1
    replace e2 := tmpE e2
    simp only [execOp, hop]
    go_simp
  · rintro e w' ⟨rfl, hb⟩
    exact ⟨_, rfl, hK _ _ ⟨g, { h.kept hb with cM := fun _ => rfl, cX := fun _ => rfl, cS := fun _ => rfl, fB := fun _ q => Bool.noConfusion (show true = false from q), fC := fun _ => rfl }⟩⟩
set_option maxRecDepth 100000 in
theorem stM {o : Oper} (hg : o.guard = none) (hds : o.dst = some 24) (hop : o.op = .move (.tmp 28)) (hs : 75 ≤ a.tmps.size) (hdC : 3 ∈ deps o) : StepAt Tryz.prog Q a sl (I w1 s s' nb tb n' t' A A' n c n2 c2 rb) 4 o := by
  refine ⟨⟨hg, by rw [hds]; decide⟩, ?_⟩
  rintro d u W ⟨g, h⟩ hd hdep K hK
  rw [hds] at hK
  have e1 := eval_new (a := a) (u := u) (slots := sl) (t := 28) (by decide) (by decide) (by omega)
  rw [h.fC (hdep 3 hdC)] at e1
  refine wp_yields (w' := W) hds (.tuple #[EE s' n' t' A' n2 c2, .bool rb]) ?_ (hK _ _ ⟨g, { h with cM := fun _ => hdep 3 hdC, fM := fun _ => rfl }⟩)
  clear hK hdep h hd
  simp only [execOp, hop, e1]
  go_simp
set_option maxRecDepth 100000 in
theorem stX {o : Oper} (hg : o.guard = none) (hds : o.dst = some 29) (hop : o.op = .extract (.tmp 24) 0) (hs : 75 ≤ a.tmps.size) (hdM : 4 ∈ deps o) : StepAt Tryz.prog Q a sl (I w1 s s' nb tb n' t' A A' n c n2 c2 rb) 5 o := by
  refine ⟨⟨hg, by rw [hds]; decide⟩, ?_⟩
  rintro d u W ⟨g, h⟩ hd hdep K hK
  rw [hds] at hK
  have e1 := eval_new (a := a) (u := u) (slots := sl) (t := 24) (by decide) (by decide) (by omega)
  rw [h.fM (hdep 4 hdM)] at e1
  refine wp_yields (w' := W) hds (EE s' n' t' A' n2 c2) ?_ (hK _ _ ⟨g, { h with cX := fun _ => h.cM (hdep 4 hdM), fX := fun _ => rfl }⟩)
  clear hK hdep h hd
  simp only [execOp, hop, e1]
  go_simp
set_option maxRecDepth 100000 in
theorem stY {o : Oper} (hg : o.guard = none) (hds : o.dst = some 30) (hop : o.op = .extract (.tmp 24) 1) (hs : 75 ≤ a.tmps.size) (hdM : 4 ∈ deps o) : StepAt Tryz.prog Q a sl (I w1 s s' nb tb n' t' A A' n c n2 c2 rb) 6 o := by
  refine ⟨⟨hg, by rw [hds]; decide⟩, ?_⟩
  rintro d u W ⟨g, h⟩ hd hdep K hK
  rw [hds] at hK
  have e1 := eval_new (a := a) (u := u) (slots := sl) (t := 24) (by decide) (by decide) (by omega)
  rw [h.fM (hdep 4 hdM)] at e1
  refine wp_yields (w' := W) hds (.bool rb) ?_ (hK _ _ ⟨g, { h with fY := fun _ => rfl }⟩)
  clear hK hdep h hd
  simp only [execOp, hop, e1]
  go_simp
set_option maxRecDepth 100000 in
theorem stP {o : Oper} (hg : o.guard = none) (hds : o.dst = some 5) (hop : o.op = .alloc 59) : StepAt Tryz.prog Q a sl (I w1 s s' nb tb n' t' A A' n c n2 c2 rb) 7 o := by
  refine ⟨⟨hg, by rw [hds]; decide⟩, ?_⟩
  rintro d u W ⟨g, h⟩ hd hdep K hK
  rw [hds] at hK
  have hb : Below W.heap.size W (W.alloc zB) := (Below.refl _ _).alloc (Nat.le_refl _) _
  have hS : d 8 = false := by
    cases hh : d 8 with
    | false => rfl
    | true => have := h.cP hh; rw [hd] at this; cases this
  refine wp_yields (w' := W.alloc zB) hds (.pointer (some ⟨W.heap.size, 0, none⟩)) ?_ (hK _ _ ⟨W.heap.size, { h.kept hb with cP := fun _ => rfl, fP := fun _ => ⟨rfl, h.bel.size, ?_⟩ }⟩)
  · clear hK hdep h hd hS hb
    unfold zB
    simp only [execOp, hop]
    go_simp
  · show _ = some (bif d 8 then _ else _)
    rw [hS]
    exact heap_alloc_new W _
set_option maxRecDepth 100000 in
theorem stS {o : Oper} (hg : o.guard = none) (hds : o.dst = none) (hop : o.op = .store 59 (.tmp 5) (.tmp 29)) (hs : 75 ≤ a.tmps.size) (hdX : 5 ∈ deps o) (hdP : 7 ∈ deps o) : StepAt Tryz.prog Q a sl (I w1 s s' nb tb n' t' A A' n c n2 c2 rb) 8 o := by
  refine ⟨⟨hg, by rw [hds]; rfl⟩, ?_⟩
  rintro d u W ⟨g, h⟩ hd hdep K hK
  rw [hds] at hK
  have dX := hdep 5 hdX
  have dP := hdep 7 hdP
  have e1 := eval_new (a := a) (u := u) (slots := sl) (t := 5) (by decide) (by decide) (by omega)
  have e2 := eval_new (a := a) (u := u) (slots := sl) (t := 29) (by decide) (by decide) (by omega)
  obtain ⟨p1, p2, p3⟩ := h.fP dP
  rw [p1] at e1
  rw [h.fX dX] at e2
  rw [hd] at p3
  have p3 : W.heap[g]? = some zB := p3
  obtain ⟨z0, z1, z2, z3, y0, y1, y2, y3, _⟩ := cellsE p3
  have hb : ∀ v0 v1 v2 v3, Below w1.heap.size w1 ((((W.setCell ⟨g, 0, none⟩ v0).setCell ⟨g, 1, none⟩ v1).setCell ⟨g, 2, none⟩ v2).setCell ⟨g, 3, none⟩ v3) := fun v0 v1 v2 v3 =>
    (((h.bel.setCell (p := ⟨g, 0, none⟩) p2 _).setCell (p := ⟨g, 1, none⟩) p2 _).setCell (p := ⟨g, 2, none⟩) p2 _).setCell (p := ⟨g, 3, none⟩) p2 _
  have hcl : ∀ v0 v1 v2 v3, ((((W.setCell ⟨g, 0, none⟩ v0).setCell ⟨g, 1, none⟩ v1).setCell ⟨g, 2, none⟩ v2).setCell ⟨g, 3, none⟩ v3).heap[g]? = some (.cells #[v0, v1, v2, v3] 59 (0, 0)) := fun v0 v1 v2 v3 => by
    simp [World.setCell, Array.getElem?_modify, p3, zB]
  refine wp_skips (w' := (((W.setCell ⟨g, 0, none⟩ (.int .i64 s')).setCell ⟨g, 1, none⟩ (.string n')).setCell ⟨g, 2, none⟩ (.string t')).setCell ⟨g, 3, none⟩ (.slice A' n2 c2)) hds ?_ (hK undef _ ⟨g, { h with bel := hb _ _ _ _, cS := fun _ => h.cX dX, cP := fun _ => dP, fB := fun _ q => absurd (h.cX dX) (by rw [show d 3 = false from q]; decide), fP := fun _ => ⟨p1, p2, hcl _ _ _ _⟩ }⟩)
  clear hK hdep h hd hb hcl p3
  simp only [execOp, hop, e1, e2]
  go_simp
set_option maxRecDepth 100000 in
theorem stQ {o : Oper} (hg : o.guard = none) (hds : o.dst = some 6) (hop : o.op = .assign (.tmp 30)) (hs : 75 ≤ a.tmps.size) (hdY : 6 ∈ deps o) : StepAt Tryz.prog Q a sl (I w1 s s' nb tb n' t' A A' n c n2 c2 rb) 9 o := by
  refine ⟨⟨hg, by rw [hds]; decide⟩, ?_⟩
  rintro d u W ⟨g, h⟩ hd hdep K hK
  rw [hds] at hK
  have e1 := eval_new (a := a) (u := u) (slots := sl) (t := 30) (by decide) (by decide) (by omega)
  rw [h.fY (hdep 6 hdY)] at e1
  refine wp_yields (w' := W) hds (.bool rb) ?_ (hK _ _ ⟨g, { h with fQ := fun _ => rfl }⟩)
  clear hK hdep h hd
  simp only [execOp, hop, e1]
  go_simp
end
theorem N.start {w1 W : World} {s s' : Int} {nb tb n' t' : ByteArray} {A A' : Option Addr} {n c n2 c2 : Nat} {rb : Bool} {u : Nat → Value} (hb : Below w1.heap.size w1 W) : I w1 s s' nb tb n' t' A A' n c n2 c2 rb (fun _ => false) u W :=
  ⟨0, ⟨hb, nofun, nofun, nofun, nofun, nofun, nofun, nofun, nofun, nofun, nofun, nofun, nofun, nofun⟩⟩
end Go.Proofs.YtmmpojhjpghdlaaGreatDoor.Dv.I2
namespace Go.Proofs.YtmmpojhjpghdlaaGreatDoor.Dv.I3
open Go.Lib Go.RowKit Rg
open Xm (sv)
def sl : List Nat := [32, 33, 34, 35, 31, 36, 37, 7, 8]
abbrev EE (s : Int) (nb tb : ByteArray) (A : Option Addr) (n c : Nat) : Value := .agg #[.int .i64 s, .string nb, .string tb, .slice A n c]
structure N (w1 : World) (s s' : Int) (nb tb n' t' : ByteArray) (A A' : Option Addr) (n c n2 c2 : Nat) (rb : Bool) (g : Nat) (d : Nat → Bool) (u : Nat → Value) (W : World) : Prop where
  bel : Below w1.heap.size w1 W
  cM : d 4 = true → d 3 = true
  cX : d 5 = true → d 3 = true
  cS : d 8 = true → d 3 = true
  cP : d 8 = true → d 7 = true
  f0 : d 0 = true → u 32 = EE s nb tb A n c
  f1 : d 1 = true → u 33 = .agg #[.int .i64 1, .string ⟨#[112, 114, 111, 112, 115, 116, 97, 116]⟩]
  fB : d 2 = true → d 3 = false → NmsAt W (u 34) [((1 : Int), (⟨#[112, 114, 111, 112, 115, 116, 97, 116]⟩ : ByteArray))]
  fC : d 3 = true → u 35 = .tuple #[EE s' n' t' A' n2 c2, .bool rb]
  fM : d 4 = true → u 31 = .tuple #[EE s' n' t' A' n2 c2, .bool rb]
  fX : d 5 = true → u 36 = EE s' n' t' A' n2 c2
  fY : d 6 = true → u 37 = .bool rb
  fP : d 7 = true → u 7 = .pointer (some ⟨g, 0, none⟩) ∧ w1.heap.size ≤ g ∧ W.heap[g]? = some (bif d 8 then elB s' n' t' (.slice A' n2 c2) else zB)
  fQ : d 9 = true → u 8 = .bool rb
def I (w1 : World) (s s' : Int) (nb tb n' t' : ByteArray) (A A' : Option Addr) (n c n2 c2 : Nat) (rb : Bool) (d : Nat → Bool) (u : Nat → Value) (W : World) : Prop := ∃ g, N w1 s s' nb tb n' t' A A' n c n2 c2 rb g d u W
section
variable {Q : Exit → Act → World → Prop} {a : Act} {w1 : World} {s s' : Int} {nb tb n' t' : ByteArray} {A A' : Option Addr} {n c n2 c2 : Nat} {rb : Bool} {g : Nat} {d : Nat → Bool} {u : Nat → Value} {W : World}
theorem N.kept (h : N w1 s s' nb tb n' t' A A' n c n2 c2 rb g d u W) {W' : World} (hb : Below W.heap.size W W') : N w1 s s' nb tb n' t' A A' n c n2 c2 rb g d u W' :=
  { h with
    bel := Xm.below_then h.bel hb
    fB := fun h1 h2 => (h.fB h1 h2).kept hb
    fP := fun h1 => have k := h.fP h1; ⟨k.1, k.2.1, blk_at k.2.2 hb⟩ }
set_option maxRecDepth 100000 in
theorem st0 {o : Oper} (hg : o.guard = none) (hds : o.dst = some 32) (hop : o.op = .load 59 (.tmp 1)) (gs : Nat) (h5 : a.eval (.tmp 1) = .pointer (some ⟨gs, 0, none⟩)) (hc : ∀ W, Below w1.heap.size w1 W → W.heap[gs]? = some (elB s nb tb (.slice A n c))) : StepAt Tryz.prog Q a sl (I w1 s s' nb tb n' t' A A' n c n2 c2 rb) 0 o := by
  refine ⟨⟨hg, by rw [hds]; decide⟩, ?_⟩
  rintro d u W ⟨g, h⟩ hd hdep K hK
  rw [hds] at hK
  have e2 := eval_old (u := u) (slots := sl) (by decide) h5
  obtain ⟨x0, x1, x2, x3, _⟩ := cellsE (hc W h.bel)
  refine wp_yields (w' := W) hds (EE s nb tb A n c) ?_ (hK _ _ ⟨g, { h with f0 := fun _ => rfl }⟩)
  clear hK hdep h hd hc
  simp only [execOp, hop, e2]
  go_simp
set_option maxRecDepth 100000 in
theorem st1 {o : Oper} (hg : o.guard = none) (hds : o.dst = some 33) (hop : o.op = .call { callee := .value (.func 40), args := #[.const (.string ⟨#[112, 114, 111, 112, 115, 116, 97, 116]⟩)], argTypes := #[9] }) : StepAt Tryz.prog Q a sl (I w1 s s' nb tb n' t' A A' n c n2 c2 rb) 1 o := by
  refine ⟨⟨hg, by rw [hds]; decide⟩, ?_⟩
  rintro d u W ⟨g, h⟩ hd hdep K hK
  rw [hds] at hK
  refine wp_callsD hds 40 #[.string ⟨#[112, 114, 111, 112, 115, 116, 97, 116]⟩] ?_ ((dav_any ⟨#[112, 114, 111, 112, 115, 116, 97, 116]⟩ W).mono ?_)
  · clear hK hdep h hd
    simp only [execOp, hop]
    go_simp
  · rintro e w' ⟨rfl, hb⟩
    exact ⟨_, rfl, hK _ _ ⟨g, { h.kept hb with f1 := fun _ => rfl }⟩⟩
theorem N.noC (h : N w1 s s' nb tb n' t' A A' n c n2 c2 rb g d u W) (h1 : d 3 = false) : d 4 = false ∧ d 5 = false ∧ d 8 = false := by
  refine ⟨?_, ?_, ?_⟩
  · cases hh : d 4 with
    | false => rfl
    | true => have := h.cM hh; rw [h1] at this; cases this
  · cases hh : d 5 with
    | false => rfl
    | true => have := h.cX hh; rw [h1] at this; cases this
  · cases hh : d 8 with
    | false => rfl
    | true => have := h.cS hh; rw [h1] at this; cases this
set_option maxRecDepth 100000 in
theorem stB {o : Oper} (hg : o.guard = none) (hds : o.dst = some 34) (hop : o.op = .buildSlice 27 1 #[(0, .tmp 33)]) (hs : 75 ≤ a.tmps.size) (hda1 : 1 ∈ deps o) : StepAt Tryz.prog Q a sl (I w1 s s' nb tb n' t' A A' n c n2 c2 rb) 2 o := by
  refine ⟨⟨hg, by rw [hds]; decide⟩, ?_⟩
  rintro d u W ⟨g, h⟩ hd hdep K hK
  rw [hds] at hK
  have e1 := eval_new (a := a) (u := u) (slots := sl) (t := 33) (by decide) (by decide) (by omega)
  rw [h.f1 (hdep 1 hda1)] at e1
  obtain ⟨ob, hob⟩ : ∃ ob, (Obj.cells #[.int .i64 1, .string ⟨#[112, 114, 111, 112, 115, 116, 97, 116]⟩] 24 (0, 0) : Obj) = ob := ⟨_, rfl⟩
  have hb : Below W.heap.size W (W.alloc ob) := (Below.refl _ _).alloc (Nat.le_refl _) _
  have hnm : NmsAt (W.alloc ob) (.slice (some ⟨W.heap.size, 0, none⟩) 1 1) [((1 : Int), (⟨#[112, 114, 111, 112, 115, 116, 97, 116]⟩ : ByteArray))] := by rw [← hob]; exact nms1 _ 1 ⟨#[112, 114, 111, 112, 115, 116, 97, 116]⟩
  refine wp_yields (w' := W.alloc ob) hds (.slice (some ⟨W.heap.size, 0, none⟩) 1 1) ?_ (hK _ _ ⟨g, { h.kept hb with fB := fun _ _ => hnm }⟩)
  subst hob
  clear hK hdep h hd hnm
  simp only [execOp, hop, List.map_toArray, List.map_cons, List.map_nil, e1]
  go_simp
set_option maxRecDepth 100000 in
theorem stC {o : Oper} (hg : o.guard = none) (hds : o.dst = some 35) (hop : o.op = .call { callee := .value (.func 64), args := #[.tmp 32, .tmp 34], argTypes := #[59, 27] }) (hs : 75 ≤ a.tmps.size) (hd0 : 0 ∈ deps o) (hdB : 2 ∈ deps o)
    (cO : ∀ W v, Below w1.heap.size w1 W → NmsAt W v [((1 : Int), (⟨#[112, 114, 111, 112, 115, 116, 97, 116]⟩ : ByteArray))] → Calls Tryz.prog 64 #[EE s nb tb A n c, v] W fun e w' => e = .returned (.tuple #[EE s' n' t' A' n2 c2, .bool rb]) ∧ Below W.heap.size W w') : StepAt Tryz.prog Q a sl (I w1 s s' nb tb n' t' A A' n c n2 c2 rb) 3 o := by
  refine ⟨⟨hg, by rw [hds]; decide⟩, ?_⟩
  rintro d u W ⟨g, h⟩ hd hdep K hK
  rw [hds] at hK
  have e1 := eval_new (a := a) (u := u) (slots := sl) (t := 32) (by decide) (by decide) (by omega)
  have e2 := eval_new (a := a) (u := u) (slots := sl) (t := 34) (by decide) (by decide) (by omega)
  rw [h.f0 (hdep 0 hd0)] at e1
  have hn := h.fB (hdep 2 hdB) hd
  have hC := cO W _ h.bel hn
  obtain ⟨b, hbv, _⟩ := hn
  rw [hbv] at e2 hC
  refine wp_callsD hds 64 _ ?_ (hC.mono ?_)
  · clear hK hdep h hd cO hC
    replace e1 := tmpE e1
    replace e2 := tmpE e2
    simp only [execOp, hop]
    go_simp
  · rintro e w' ⟨rfl, hb⟩
    exact ⟨_, rfl, hK _ _ ⟨g, { h.kept hb with cM := fun _ => rfl, cX := fun _ => rfl, cS := fun _ => rfl, fB := fun _ q => Bool.noConfusion (show true = false from q), fC := fun _ => rfl }⟩⟩
set_option maxRecDepth 100000 in
theorem stM {o : Oper} (hg : o.guard = none) (hds : o.dst = some 31) (hop : o.op = .move (.tmp 35)) (hs : 75 ≤ a.tmps.size) (hdC : 3 ∈ deps o) : StepAt Tryz.prog Q a sl (I w1 s s' nb tb n' t' A A' n c n2 c2 rb) 4 o := by
  refine ⟨⟨hg, by rw [hds]; decide⟩, ?_⟩
  rintro d u W ⟨g, h⟩ hd hdep K hK
  rw [hds] at hK
  have e1 := eval_new (a := a) (u := u) (slots := sl) (t := 35) (by decide) (by decide) (by omega)
  rw [h.fC (hdep 3 hdC)] at e1
  refine wp_yields (w' := W) hds (.tuple #[EE s' n' t' A' n2 c2, .bool rb]) ?_ (hK _ _ ⟨g, { h with cM := fun _ => hdep 3 hdC, fM := fun _ => rfl }⟩)
  clear hK hdep h hd
  simp only [execOp, hop, e1]
  go_simp
set_option maxRecDepth 100000 in
theorem stX {o : Oper} (hg : o.guard = none) (hds : o.dst = some 36) (hop : o.op = .extract (.tmp 31) 0) (hs : 75 ≤ a.tmps.size) (hdM : 4 ∈ deps o) : StepAt Tryz.prog Q a sl (I w1 s s' nb tb n' t' A A' n c n2 c2 rb) 5 o := by
  refine ⟨⟨hg, by rw [hds]; decide⟩, ?_⟩
  rintro d u W ⟨g, h⟩ hd hdep K hK
  rw [hds] at hK
  have e1 := eval_new (a := a) (u := u) (slots := sl) (t := 31) (by decide) (by decide) (by omega)
  rw [h.fM (hdep 4 hdM)] at e1
  refine wp_yields (w' := W) hds (EE s' n' t' A' n2 c2) ?_ (hK _ _ ⟨g, { h with cX := fun _ => h.cM (hdep 4 hdM), fX := fun _ => rfl }⟩)
  clear hK hdep h hd
  simp only [execOp, hop, e1]
  go_simp
set_option maxRecDepth 100000 in
theorem stY {o : Oper} (hg : o.guard = none) (hds : o.dst = some 37) (hop : o.op = .extract (.tmp 31) 1) (hs : 75 ≤ a.tmps.size) (hdM : 4 ∈ deps o) : StepAt Tryz.prog Q a sl (I w1 s s' nb tb n' t' A A' n c n2 c2 rb) 6 o := by
  refine ⟨⟨hg, by rw [hds]; decide⟩, ?_⟩
  rintro d u W ⟨g, h⟩ hd hdep K hK
  rw [hds] at hK
  have e1 := eval_new (a := a) (u := u) (slots := sl) (t := 31) (by decide) (by decide) (by omega)
  rw [h.fM (hdep 4 hdM)] at e1
  refine wp_yields (w' := W) hds (.bool rb) ?_ (hK _ _ ⟨g, { h with fY := fun _ => rfl }⟩)
  clear hK hdep h hd
  simp only [execOp, hop, e1]
  go_simp
set_option maxRecDepth 100000 in
theorem stP {o : Oper} (hg : o.guard = none) (hds : o.dst = some 7) (hop : o.op = .alloc 59) : StepAt Tryz.prog Q a sl (I w1 s s' nb tb n' t' A A' n c n2 c2 rb) 7 o := by
  refine ⟨⟨hg, by rw [hds]; decide⟩, ?_⟩
  rintro d u W ⟨g, h⟩ hd hdep K hK
  rw [hds] at hK
  have hb : Below W.heap.size W (W.alloc zB) := (Below.refl _ _).alloc (Nat.le_refl _) _
  have hS : d 8 = false := by
    cases hh : d 8 with
    | false => rfl
    | true => have := h.cP hh; rw [hd] at this; cases this
  refine wp_yields (w' := W.alloc zB) hds (.pointer (some ⟨W.heap.size, 0, none⟩)) ?_ (hK _ _ ⟨W.heap.size, { h.kept hb with cP := fun _ => rfl, fP := fun _ => ⟨rfl, h.bel.size, ?_⟩ }⟩)
  · clear hK hdep h hd hS hb
    unfold zB
    simp only [execOp, hop]
    go_simp
  · show _ = some (bif d 8 then _ else _)
    rw [hS]
    exact heap_alloc_new W _
set_option maxRecDepth 100000 in
theorem stS {o : Oper} (hg : o.guard = none) (hds : o.dst = none) (hop : o.op = .store 59 (.tmp 7) (.tmp 36)) (hs : 75 ≤ a.tmps.size) (hdX : 5 ∈ deps o) (hdP : 7 ∈ deps o) : StepAt Tryz.prog Q a sl (I w1 s s' nb tb n' t' A A' n c n2 c2 rb) 8 o := by
  refine ⟨⟨hg, by rw [hds]; rfl⟩, ?_⟩
  rintro d u W ⟨g, h⟩ hd hdep K hK
  rw [hds] at hK
  have dX := hdep 5 hdX
  have dP := hdep 7 hdP
  have e1 := eval_new (a := a) (u := u) (slots := sl) (t := 7) (by decide) (by decide) (by omega)
  have e2 := eval_new (a := a) (u := u) (slots := sl) (t := 36) (by decide) (by decide) (by omega)
  obtain ⟨p1, p2, p3⟩ := h.fP dP
  rw [p1] at e1
  rw [h.fX dX] at e2
  rw [hd] at p3
  have p3 : W.heap[g]? = some zB := p3
  obtain ⟨z0, z1, z2, z3, y0, y1, y2, y3, _⟩ := cellsE p3
  have hb : ∀ v0 v1 v2 v3, Below w1.heap.size w1 ((((W.setCell ⟨g, 0, none⟩ v0).setCell ⟨g, 1, none⟩ v1).setCell ⟨g, 2, none⟩ v2).setCell ⟨g, 3, none⟩ v3) := fun v0 v1 v2 v3 =>
    (((h.bel.setCell (p := ⟨g, 0, none⟩) p2 _).setCell (p := ⟨g, 1, none⟩) p2 _).setCell (p := ⟨g, 2, none⟩) p2 _).setCell (p := ⟨g, 3, none⟩) p2 _
  have hcl : ∀ v0 v1 v2 v3, ((((W.setCell ⟨g, 0, none⟩ v0).setCell ⟨g, 1, none⟩ v1).setCell ⟨g, 2, none⟩ v2).setCell ⟨g, 3, none⟩ v3).heap[g]? = some (.cells #[v0, v1, v2, v3] 59 (0, 0)) := fun v0 v1 v2 v3 => by
    simp [World.setCell, Array.getElem?_modify, p3, zB]
  refine wp_skips (w' := (((W.setCell ⟨g, 0, none⟩ (.int .i64 s')).setCell ⟨g, 1, none⟩ (.string n')).setCell ⟨g, 2, none⟩ (.string t')).setCell ⟨g, 3, none⟩ (.slice A' n2 c2)) hds ?_ (hK undef _ ⟨g, { h with bel := hb _ _ _ _, cS := fun _ => h.cX dX, cP := fun _ => dP, fB := fun _ q => absurd (h.cX dX) (by rw [show d 3 = false from q]; decide), fP := fun _ => ⟨p1, p2, hcl _ _ _ _⟩ }⟩)
  clear hK hdep h hd hb hcl p3
  simp only [execOp, hop, e1, e2]
  go_simp
set_option maxRecDepth 100000 in
theorem stQ {o : Oper} (hg : o.guard = none) (hds : o.dst = some 8) (hop : o.op = .assign (.tmp 37)) (hs : 75 ≤ a.tmps.size) (hdY : 6 ∈ deps o) : StepAt Tryz.prog Q a sl (I w1 s s' nb tb n' t' A A' n c n2 c2 rb) 9 o := by
  refine ⟨⟨hg, by rw [hds]; decide⟩, ?_⟩
  rintro d u W ⟨g, h⟩ hd hdep K hK
  rw [hds] at hK
  have e1 := eval_new (a := a) (u := u) (slots := sl) (t := 37) (by decide) (by decide) (by omega)
  rw [h.fY (hdep 6 hdY)] at e1
  refine wp_yields (w' := W) hds (.bool rb) ?_ (hK _ _ ⟨g, { h with fQ := fun _ => rfl }⟩)
  clear hK hdep h hd
  simp only [execOp, hop, e1]
  go_simp
end
theorem N.start {w1 W : World} {s s' : Int} {nb tb n' t' : ByteArray} {A A' : Option Addr} {n c n2 c2 : Nat} {rb : Bool} {u : Nat → Value} (hb : Below w1.heap.size w1 W) : I w1 s s' nb tb n' t' A A' n c n2 c2 rb (fun _ => false) u W :=
  ⟨0, ⟨hb, nofun, nofun, nofun, nofun, nofun, nofun, nofun, nofun, nofun, nofun, nofun, nofun, nofun⟩⟩
end Go.Proofs.YtmmpojhjpghdlaaGreatDoor.Dv.I3
namespace Go.Proofs.YtmmpojhjpghdlaaGreatDoor.Dv.I4
open Go.Lib Go.RowKit Rg
open Xm (sv)
def sl : List Nat := [39, 40, 41, 42, 38, 43, 44, 9, 10]
abbrev EE (s : Int) (nb tb : ByteArray) (A : Option Addr) (n c : Nat) : Value := .agg #[.int .i64 s, .string nb, .string tb, .slice A n c]
structure N (w1 : World) (s s' : Int) (nb tb n' t' : ByteArray) (A A' : Option Addr) (n c n2 c2 : Nat) (rb : Bool) (g : Nat) (d : Nat → Bool) (u : Nat → Value) (W : World) : Prop where
  bel : Below w1.heap.size w1 W
  cM : d 4 = true → d 3 = true
  cX : d 5 = true → d 3 = true
  cS : d 8 = true → d 3 = true
  cP : d 8 = true → d 7 = true
  f0 : d 0 = true → u 39 = EE s nb tb A n c
  f1 : d 1 = true → u 40 = .agg #[.int .i64 1, .string ⟨#[112, 114, 111, 112]⟩]
  fB : d 2 = true → d 3 = false → NmsAt W (u 41) [((1 : Int), (⟨#[112, 114, 111, 112]⟩ : ByteArray))]
  fC : d 3 = true → u 42 = .tuple #[EE s' n' t' A' n2 c2, .bool rb]
  fM : d 4 = true → u 38 = .tuple #[EE s' n' t' A' n2 c2, .bool rb]
  fX : d 5 = true → u 43 = EE s' n' t' A' n2 c2
  fY : d 6 = true → u 44 = .bool rb
  fP : d 7 = true → u 9 = .pointer (some ⟨g, 0, none⟩) ∧ w1.heap.size ≤ g ∧ W.heap[g]? = some (bif d 8 then elB s' n' t' (.slice A' n2 c2) else zB)
  fQ : d 9 = true → u 10 = .bool rb
def I (w1 : World) (s s' : Int) (nb tb n' t' : ByteArray) (A A' : Option Addr) (n c n2 c2 : Nat) (rb : Bool) (d : Nat → Bool) (u : Nat → Value) (W : World) : Prop := ∃ g, N w1 s s' nb tb n' t' A A' n c n2 c2 rb g d u W
section
variable {Q : Exit → Act → World → Prop} {a : Act} {w1 : World} {s s' : Int} {nb tb n' t' : ByteArray} {A A' : Option Addr} {n c n2 c2 : Nat} {rb : Bool} {g : Nat} {d : Nat → Bool} {u : Nat → Value} {W : World}
theorem N.kept (h : N w1 s s' nb tb n' t' A A' n c n2 c2 rb g d u W) {W' : World} (hb : Below W.heap.size W W') : N w1 s s' nb tb n' t' A A' n c n2 c2 rb g d u W' :=
  { h with
    bel := Xm.below_then h.bel hb
    fB := fun h1 h2 => (h.fB h1 h2).kept hb
    fP := fun h1 => have k := h.fP h1; ⟨k.1, k.2.1, blk_at k.2.2 hb⟩ }
set_option maxRecDepth 100000 in
theorem st0 {o : Oper} (hg : o.guard = none) (hds : o.dst = some 39) (hop : o.op = .load 59 (.tmp 7)) (gs : Nat) (h5 : a.eval (.tmp 7) = .pointer (some ⟨gs, 0, none⟩)) (hc : ∀ W, Below w1.heap.size w1 W → W.heap[gs]? = some (elB s nb tb (.slice A n c))) : StepAt Tryz.prog Q a sl (I w1 s s' nb tb n' t' A A' n c n2 c2 rb) 0 o := by
  refine ⟨⟨hg, by rw [hds]; decide⟩, ?_⟩
  rintro d u W ⟨g, h⟩ hd hdep K hK
  rw [hds] at hK
  have e2 := eval_old (u := u) (slots := sl) (by decide) h5
  obtain ⟨x0, x1, x2, x3, _⟩ := cellsE (hc W h.bel)
  refine wp_yields (w' := W) hds (EE s nb tb A n c) ?_ (hK _ _ ⟨g, { h with f0 := fun _ => rfl }⟩)
  clear hK hdep h hd hc
  simp only [execOp, hop, e2]
  go_simp
set_option maxRecDepth 100000 in
theorem st1 {o : Oper} (hg : o.guard = none) (hds : o.dst = some 40) (hop : o.op = .call { callee := .value (.func 40), args := #[.const (.string ⟨#[112, 114, 111, 112]⟩)], argTypes := #[9] }) : StepAt Tryz.prog Q a sl (I w1 s s' nb tb n' t' A A' n c n2 c2 rb) 1 o := by
  refine ⟨⟨hg, by rw [hds]; decide⟩, ?_⟩
  rintro d u W ⟨g, h⟩ hd hdep K hK
  rw [hds] at hK
  refine wp_callsD hds 40 #[.string ⟨#[112, 114, 111, 112]⟩] ?_ ((dav_any ⟨#[112, 114, 111, 112]⟩ W).mono ?_)
  · clear hK hdep h hd
    simp only [execOp, hop]
    go_simp
  · rintro e w' ⟨rfl, hb⟩
    exact ⟨_, rfl, hK _ _ ⟨g, { h.kept hb with f1 := fun _ => rfl }⟩⟩
theorem N.noC (h : N w1 s s' nb tb n' t' A A' n c n2 c2 rb g d u W) (h1 : d 3 = false) : d 4 = false ∧ d 5 = false ∧ d 8 = false := by
  refine ⟨?_, ?_, ?_⟩
  · cases hh : d 4 with
    | false => rfl
    | true => have := h.cM hh; rw [h1] at this; cases this
  · cases hh : d 5 with
    | false => rfl
    | true => have := h.cX hh; rw [h1] at this; cases this
  · cases hh : d 8 with
    | false => rfl
    | true => have := h.cS hh; rw [h1] at this; cases this
set_option maxRecDepth 100000 in
theorem stB {o : Oper} (hg : o.guard = none) (hds : o.dst = some 41) (hop : o.op = .buildSlice 27 1 #[(0, .tmp 40)]) (hs : 75 ≤ a.tmps.size) (hda1 : 1 ∈ deps o) : StepAt Tryz.prog Q a sl (I w1 s s' nb tb n' t' A A' n c n2 c2 rb) 2 o := by
  refine ⟨⟨hg, by rw [hds]; decide⟩, ?_⟩
  rintro d u W ⟨g, h⟩ hd hdep K hK
  rw [hds] at hK
  have e1 := eval_new (a := a) (u := u) (slots := sl) (t := 40) (by decide) (by decide) (by omega)
  rw [h.f1 (hdep 1 hda1)] at e1
  obtain ⟨ob, hob⟩ : ∃ ob, (Obj.cells #[.int .i64 1, .string ⟨#[112, 114, 111, 112]⟩] 24 (0, 0) : Obj) = ob := ⟨_, rfl⟩
  have hb : Below W.heap.size W (W.alloc ob) := (Below.refl _ _).alloc (Nat.le_refl _) _
  have hnm : NmsAt (W.alloc ob) (.slice (some ⟨W.heap.size, 0, none⟩) 1 1) [((1 : Int), (⟨#[112, 114, 111, 112]⟩ : ByteArray))] := by rw [← hob]; exact nms1 _ 1 ⟨#[112, 114, 111, 112]⟩
  refine wp_yields (w' := W.alloc ob) hds (.slice (some ⟨W.heap.size, 0, none⟩) 1 1) ?_ (hK _ _ ⟨g, { h.kept hb with fB := fun _ _ => hnm }⟩)
  subst hob
  clear hK hdep h hd hnm
  simp only [execOp, hop, List.map_toArray, List.map_cons, List.map_nil, e1]
  go_simp
set_option maxRecDepth 100000 in
theorem stC {o : Oper} (hg : o.guard = none) (hds : o.dst = some 42) (hop : o.op = .call { callee := .value (.func 64), args := #[.tmp 39, .tmp 41], argTypes := #[59, 27] }) (hs : 75 ≤ a.tmps.size) (hd0 : 0 ∈ deps o) (hdB : 2 ∈ deps o)
    (cO : ∀ W v, Below w1.heap.size w1 W → NmsAt W v [((1 : Int), (⟨#[112, 114, 111, 112]⟩ : ByteArray))] → Calls Tryz.prog 64 #[EE s nb tb A n c, v] W fun e w' => e = .returned (.tuple #[EE s' n' t' A' n2 c2, .bool rb]) ∧ Below W.heap.size W w') : StepAt Tryz.prog Q a sl (I w1 s s' nb tb n' t' A A' n c n2 c2 rb) 3 o := by
  refine ⟨⟨hg, by rw [hds]; decide⟩, ?_⟩
  rintro d u W ⟨g, h⟩ hd hdep K hK
  rw [hds] at hK
  have e1 := eval_new (a := a) (u := u) (slots := sl) (t := 39) (by decide) (by decide) (by omega)
  have e2 := eval_new (a := a) (u := u) (slots := sl) (t := 41) (by decide) (by decide) (by omega)
  rw [h.f0 (hdep 0 hd0)] at e1
  have hn := h.fB (hdep 2 hdB) hd
  have hC := cO W _ h.bel hn
  obtain ⟨b, hbv, _⟩ := hn
  rw [hbv] at e2 hC
  refine wp_callsD hds 64 _ ?_ (hC.mono ?_)
  · clear hK hdep h hd cO hC
    replace e1 := tmpE e1
    replace e2 := tmpE e2
    simp only [execOp, hop]
    go_simp
  · rintro e w' ⟨rfl, hb⟩
    exact ⟨_, rfl, hK _ _ ⟨g, { h.kept hb with cM := fun _ => rfl, cX := fun _ => rfl, cS := fun _ => rfl, fB := fun _ q => Bool.noConfusion (show true = false from q), fC := fun _ => rfl }⟩⟩
set_option maxRecDepth 100000 in
theorem stM {o : Oper} (hg : o.guard = none) (hds : o.dst = some 38) (hop : o.op = .move (.tmp 42)) (hs : 75 ≤ a.tmps.size) (hdC : 3 ∈ deps o) : StepAt Tryz.prog Q a sl (I w1 s s' nb tb n' t' A A' n c n2 c2 rb) 4 o := by
  refine ⟨⟨hg, by rw [hds]; decide⟩, ?_⟩
  rintro d u W ⟨g, h⟩ hd hdep K hK
  rw [hds] at hK
  have e1 := eval_new (a := a) (u := u) (slots := sl) (t := 42) (by decide) (by decide) (by omega)
  rw [h.fC (hdep 3 hdC)] at e1
  refine wp_yields (w' := W) hds (.tuple #[EE s' n' t' A' n2 c2, .bool rb]) ?_ (hK _ _ ⟨g, { h with cM := fun _ => hdep 3 hdC, fM := fun _ => rfl }⟩)
  clear hK hdep h hd
  simp only [execOp, hop, e1]
  go_simp
set_option maxRecDepth 100000 in
theorem stX {o : Oper} (hg : o.guard = none) (hds : o.dst = some 43) (hop : o.op = .extract (.tmp 38) 0) (hs : 75 ≤ a.tmps.size) (hdM : 4 ∈ deps o) : StepAt Tryz.prog Q a sl (I w1 s s' nb tb n' t' A A' n c n2 c2 rb) 5 o := by
  refine ⟨⟨hg, by rw [hds]; decide⟩, ?_⟩
  rintro d u W ⟨g, h⟩ hd hdep K hK
  rw [hds] at hK
  have e1 := eval_new (a := a) (u := u) (slots := sl) (t := 38) (by decide) (by decide) (by omega)
  rw [h.fM (hdep 4 hdM)] at e1
  refine wp_yields (w' := W) hds (EE s' n' t' A' n2 c2) ?_ (hK _ _ ⟨g, { h with cX := fun _ => h.cM (hdep 4 hdM), fX := fun _ => rfl }⟩)
  clear hK hdep h hd
  simp only [execOp, hop, e1]
  go_simp
set_option maxRecDepth 100000 in
theorem stY {o : Oper} (hg : o.guard = none) (hds : o.dst = some 44) (hop : o.op = .extract (.tmp 38) 1) (hs : 75 ≤ a.tmps.size) (hdM : 4 ∈ deps o) : StepAt Tryz.prog Q a sl (I w1 s s' nb tb n' t' A A' n c n2 c2 rb) 6 o := by
  refine ⟨⟨hg, by rw [hds]; decide⟩, ?_⟩
  rintro d u W ⟨g, h⟩ hd hdep K hK
  rw [hds] at hK
  have e1 := eval_new (a := a) (u := u) (slots := sl) (t := 38) (by decide) (by decide) (by omega)
  rw [h.fM (hdep 4 hdM)] at e1
  refine wp_yields (w' := W) hds (.bool rb) ?_ (hK _ _ ⟨g, { h with fY := fun _ => rfl }⟩)
  clear hK hdep h hd
  simp only [execOp, hop, e1]
  go_simp
set_option maxRecDepth 100000 in
theorem stP {o : Oper} (hg : o.guard = none) (hds : o.dst = some 9) (hop : o.op = .alloc 59) : StepAt Tryz.prog Q a sl (I w1 s s' nb tb n' t' A A' n c n2 c2 rb) 7 o := by
  refine ⟨⟨hg, by rw [hds]; decide⟩, ?_⟩
  rintro d u W ⟨g, h⟩ hd hdep K hK
  rw [hds] at hK
  have hb : Below W.heap.size W (W.alloc zB) := (Below.refl _ _).alloc (Nat.le_refl _) _
  have hS : d 8 = false := by
    cases hh : d 8 with
    | false => rfl
    | true => have := h.cP hh; rw [hd] at this; cases this
  refine wp_yields (w' := W.alloc zB) hds (.pointer (some ⟨W.heap.size, 0, none⟩)) ?_ (hK _ _ ⟨W.heap.size, { h.kept hb with cP := fun _ => rfl, fP := fun _ => ⟨rfl, h.bel.size, ?_⟩ }⟩)
  · clear hK hdep h hd hS hb
    unfold zB
    simp only [execOp, hop]
    go_simp
  · show _ = some (bif d 8 then _ else _)
    rw [hS]
    exact heap_alloc_new W _
set_option maxRecDepth 100000 in
theorem stS {o : Oper} (hg : o.guard = none) (hds : o.dst = none) (hop : o.op = .store 59 (.tmp 9) (.tmp 43)) (hs : 75 ≤ a.tmps.size) (hdX : 5 ∈ deps o) (hdP : 7 ∈ deps o) : StepAt Tryz.prog Q a sl (I w1 s s' nb tb n' t' A A' n c n2 c2 rb) 8 o := by
  refine ⟨⟨hg, by rw [hds]; rfl⟩, ?_⟩
  rintro d u W ⟨g, h⟩ hd hdep K hK
  rw [hds] at hK
  have dX := hdep 5 hdX
  have dP := hdep 7 hdP
  have e1 := eval_new (a := a) (u := u) (slots := sl) (t := 9) (by decide) (by decide) (by omega)
  have e2 := eval_new (a := a) (u := u) (slots := sl) (t := 43) (by decide) (by decide) (by omega)
  obtain ⟨p1, p2, p3⟩ := h.fP dP
  rw [p1] at e1
  rw [h.fX dX] at e2
  rw [hd] at p3
  have p3 : W.heap[g]? = some zB := p3
  obtain ⟨z0, z1, z2, z3, y0, y1, y2, y3, _⟩ := cellsE p3
  have hb : ∀ v0 v1 v2 v3, Below w1.heap.size w1 ((((W.setCell ⟨g, 0, none⟩ v0).setCell ⟨g, 1, none⟩ v1).setCell ⟨g, 2, none⟩ v2).setCell ⟨g, 3, none⟩ v3) := fun v0 v1 v2 v3 =>
    (((h.bel.setCell (p := ⟨g, 0, none⟩) p2 _).setCell (p := ⟨g, 1, none⟩) p2 _).setCell (p := ⟨g, 2, none⟩) p2 _).setCell (p := ⟨g, 3, none⟩) p2 _
  have hcl : ∀ v0 v1 v2 v3, ((((W.setCell ⟨g, 0, none⟩ v0).setCell ⟨g, 1, none⟩ v1).setCell ⟨g, 2, none⟩ v2).setCell ⟨g, 3, none⟩ v3).heap[g]? = some (.cells #[v0, v1, v2, v3] 59 (0, 0)) := fun v0 v1 v2 v3 => by
    simp [World.setCell, Array.getElem?_modify, p3, zB]
  refine wp_skips (w' := (((W.setCell ⟨g, 0, none⟩ (.int .i64 s')).setCell ⟨g, 1, none⟩ (.string n')).setCell ⟨g, 2, none⟩ (.string t')).setCell ⟨g, 3, none⟩ (.slice A' n2 c2)) hds ?_ (hK undef _ ⟨g, { h with bel := hb _ _ _ _, cS := fun _ => h.cX dX, cP := fun _ => dP, fB := fun _ q => absurd (h.cX dX) (by rw [show d 3 = false from q]; decide), fP := fun _ => ⟨p1, p2, hcl _ _ _ _⟩ }⟩)
  clear hK hdep h hd hb hcl p3
  simp only [execOp, hop, e1, e2]
  go_simp
set_option maxRecDepth 100000 in
theorem stQ {o : Oper} (hg : o.guard = none) (hds : o.dst = some 10) (hop : o.op = .assign (.tmp 44)) (hs : 75 ≤ a.tmps.size) (hdY : 6 ∈ deps o) : StepAt Tryz.prog Q a sl (I w1 s s' nb tb n' t' A A' n c n2 c2 rb) 9 o := by
  refine ⟨⟨hg, by rw [hds]; decide⟩, ?_⟩
  rintro d u W ⟨g, h⟩ hd hdep K hK
  rw [hds] at hK
  have e1 := eval_new (a := a) (u := u) (slots := sl) (t := 44) (by decide) (by decide) (by omega)
  rw [h.fY (hdep 6 hdY)] at e1
  refine wp_yields (w' := W) hds (.bool rb) ?_ (hK _ _ ⟨g, { h with fQ := fun _ => rfl }⟩)
  clear hK hdep h hd
  simp only [execOp, hop, e1]
  go_simp
end
theorem N.start {w1 W : World} {s s' : Int} {nb tb n' t' : ByteArray} {A A' : Option Addr} {n c n2 c2 : Nat} {rb : Bool} {u : Nat → Value} (hb : Below w1.heap.size w1 W) : I w1 s s' nb tb n' t' A A' n c n2 c2 rb (fun _ => false) u W :=
  ⟨0, ⟨hb, nofun, nofun, nofun, nofun, nofun, nofun, nofun, nofun, nofun, nofun, nofun, nofun, nofun⟩⟩
end Go.Proofs.YtmmpojhjpghdlaaGreatDoor.Dv.I4
