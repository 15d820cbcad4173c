import Derived.Test.YtmmpojhjpghdlaaGreatDoorMg10
import Derived.Test.YtmmpojhjpghdlaaGreatDoorMg13
import Derived.Test.YtmmpojhjpghdlaaGreatDoorMg9

/-
  REGIONS 'x, ok := e.only(..)' OF dav.toldOf, dav.propfind (written by tools/gendavreg.py): each by an invariant (RegInv), operation by operation.
-/
set_option linter.unusedVariables false
namespace Go.Proofs.YtmmpojhjpghdlaaGreatDoor.Dv.T7
open Go.Lib Go.RowKit Rg
open Xm (sv)
def sl : List Nat := [26, 27, 28, 29, 25, 30, 31, 6, 7]
abbrev EE (s : Int) (nb tb : ByteArray) (A : Option Addr) (n c : Nat) : Value := .agg #[.int .i64 s, .string nb, .string tb, .slice A n c]
structure N (w1 : World) (s s' : Int) (nb tb n' t' : ByteArray) (A A' : Option Addr) (n c n2 c2 : Nat) (rb : Bool) (g : Nat) (d : Nat → Bool) (u : Nat → Value) (W : World) : Prop where
  bel : Below w1.heap.size w1 W
  cM : d 4 = true → d 3 = true
  cX : d 5 = true → d 3 = true
  cS : d 8 = true → d 3 = true
  cP : d 8 = true → d 7 = true
  f0 : d 0 = true → u 26 = EE s nb tb A n c
  f1 : d 1 = true → u 27 = .agg #[.int .i64 1, .string ⟨#[115, 121, 110, 99, 45, 116, 111, 107, 101, 110]⟩]
  fB : d 2 = true → d 3 = false → NmsAt W (u 28) [((1 : Int), (⟨#[115, 121, 110, 99, 45, 116, 111, 107, 101, 110]⟩ : ByteArray))]
  fC : d 3 = true → u 29 = .tuple #[EE s' n' t' A' n2 c2, .bool rb]
  fM : d 4 = true → u 25 = .tuple #[EE s' n' t' A' n2 c2, .bool rb]
  fX : d 5 = true → u 30 = EE s' n' t' A' n2 c2
  fY : d 6 = true → u 31 = .bool rb
  fP : d 7 = true → u 6 = .pointer (some ⟨g, 0, none⟩) ∧ w1.heap.size ≤ g ∧ W.heap[g]? = some (bif d 8 then elB s' n' t' (.slice A' n2 c2) else zB)
  fQ : d 9 = true → u 7 = .bool rb
def I (w1 : World) (s s' : Int) (nb tb n' t' : ByteArray) (A A' : Option Addr) (n c n2 c2 : Nat) (rb : Bool) (d : Nat → Bool) (u : Nat → Value) (W : World) : Prop := ∃ g, N w1 s s' nb tb n' t' A A' n c n2 c2 rb g d u W
section
variable {Q : Exit → Act → World → Prop} {a : Act} {w1 : World} {s s' : Int} {nb tb n' t' : ByteArray} {A A' : Option Addr} {n c n2 c2 : Nat} {rb : Bool} {g : Nat} {d : Nat → Bool} {u : Nat → Value} {W : World}
theorem N.kept (h : N w1 s s' nb tb n' t' A A' n c n2 c2 rb g d u W) {W' : World} (hb : Below W.heap.size W W') : N w1 s s' nb tb n' t' A A' n c n2 c2 rb g d u W' :=
  { h with
    bel := Xm.below_then h.bel hb
    fB := fun h1 h2 => (h.fB h1 h2).kept hb
    fP := fun h1 => have k := h.fP h1; ⟨k.1, k.2.1, blk_at k.2.2 hb⟩ }
set_option maxRecDepth 100000 in
theorem st0 {o : Oper} (hg : o.guard = none) (hds : o.dst = some 26) (hop : o.op = .load 59 (.tmp 1)) (gs : Nat) (h5 : a.eval (.tmp 1) = .pointer (some ⟨gs, 0, none⟩)) (hc : ∀ W, Below w1.heap.size w1 W → W.heap[gs]? = some (elB s nb tb (.slice A n c))) : StepAt Tryz.prog Q a sl (I w1 s s' nb tb n' t' A A' n c n2 c2 rb) 0 o := by
  refine ⟨⟨hg, by rw [hds]; decide⟩, ?_⟩
  rintro d u W ⟨g, h⟩ hd hdep K hK
  rw [hds] at hK
  have e2 := eval_old (u := u) (slots := sl) (by decide) h5
  obtain ⟨x0, x1, x2, x3, _⟩ := cellsE (hc W h.bel)
  refine wp_yields (w' := W) hds (EE s nb tb A n c) ?_ (hK _ _ ⟨g, { h with f0 := fun _ => rfl }⟩)
  clear hK hdep h hd hc
  simp only [execOp, hop, e2]
  go_simp
set_option maxRecDepth 100000 in
theorem st1 {o : Oper} (hg : o.guard = none) (hds : o.dst = some 27) (hop : o.op = .call { callee := .value (.func 40), args := #[.const (.string ⟨#[115, 121, 110, 99, 45, 116, 111, 107, 101, 110]⟩)], argTypes := #[9] }) : StepAt Tryz.prog Q a sl (I w1 s s' nb tb n' t' A A' n c n2 c2 rb) 1 o := by
  refine ⟨⟨hg, by rw [hds]; decide⟩, ?_⟩
  rintro d u W ⟨g, h⟩ hd hdep K hK
  rw [hds] at hK
  refine wp_callsD hds 40 #[.string ⟨#[115, 121, 110, 99, 45, 116, 111, 107, 101, 110]⟩] ?_ ((dav_any ⟨#[115, 121, 110, 99, 45, 116, 111, 107, 101, 110]⟩ W).mono ?_)
  · clear hK hdep h hd
    simp only [execOp, hop]
    go_simp
  · rintro e w' ⟨rfl, hb⟩
    exact ⟨_, rfl, hK _ _ ⟨g, { h.kept hb with f1 := fun _ => rfl }⟩⟩
theorem N.noC (h : N w1 s s' nb tb n' t' A A' n c n2 c2 rb g d u W) (h1 : d 3 = false) : d 4 = false ∧ d 5 = false ∧ d 8 = false := by
  refine ⟨?_, ?_, ?_⟩
  · cases hh : d 4 with
    | false => rfl
    | true => have := h.cM hh; rw [h1] at this; cases this
  · cases hh : d 5 with
    | false => rfl
    | true => have := h.cX hh; rw [h1] at this; cases this
  · cases hh : d 8 with
    | false => rfl
    | true => have := h.cS hh; rw [h1] at this; cases this
set_option maxRecDepth 100000 in
theorem stB {o : Oper} (hg : o.guard = none) (hds : o.dst = some 28) (hop : o.op = .buildSlice 27 1 #[(0, .tmp 27)]) (hs : 36 ≤ a.tmps.size) (hda1 : 1 ∈ deps o) : StepAt Tryz.prog Q a sl (I w1 s s' nb tb n' t' A A' n c n2 c2 rb) 2 o := by
  refine ⟨⟨hg, by rw [hds]; decide⟩, ?_⟩
  rintro d u W ⟨g, h⟩ hd hdep K hK
  rw [hds] at hK
  have e1 := eval_new (a := a) (u := u) (slots := sl) (t := 27) (by decide) (by decide) (by omega)
  rw [h.f1 (hdep 1 hda1)] at e1
  obtain ⟨ob, hob⟩ : ∃ ob, (Obj.cells #[.int .i64 1, .string ⟨#[115, 121, 110, 99, 45, 116, 111, 107, 101, 110]⟩] 24 (0, 0) : Obj) = ob := ⟨_, rfl⟩
  have hb : Below W.heap.size W (W.alloc ob) := (Below.refl _ _).alloc (Nat.le_refl _) _
  have hnm : NmsAt (W.alloc ob) (.slice (some ⟨W.heap.size, 0, none⟩) 1 1) [((1 : Int), (⟨#[115, 121, 110, 99, 45, 116, 111, 107, 101, 110]⟩ : ByteArray))] := by rw [← hob]; exact nms1 _ 1 ⟨#[115, 121, 110, 99, 45, 116, 111, 107, 101, 110]⟩
  refine wp_yields (w' := W.alloc ob) hds (.slice (some ⟨W.heap.size, 0, none⟩) 1 1) ?_ (hK _ _ ⟨g, { h.kept hb with fB := fun _ _ => hnm }⟩)
  subst hob
  clear hK hdep h hd hnm
  simp only [execOp, hop, List.map_toArray, List.map_cons, List.map_nil, e1]
  go_simp
set_option maxRecDepth 100000 in
theorem stC {o : Oper} (hg : o.guard = none) (hds : o.dst = some 29) (hop : o.op = .call { callee := .value (.func 64), args := #[.tmp 26, .tmp 28], argTypes := #[59, 27] }) (hs : 36 ≤ a.tmps.size) (hd0 : 0 ∈ deps o) (hdB : 2 ∈ deps o)
    (cO : ∀ W v, Below w1.heap.size w1 W → NmsAt W v [((1 : Int), (⟨#[115, 121, 110, 99, 45, 116, 111, 107, 101, 110]⟩ : ByteArray))] → Calls Tryz.prog 64 #[EE s nb tb A n c, v] W fun e w' => e = .returned (.tuple #[EE s' n' t' A' n2 c2, .bool rb]) ∧ Below W.heap.size W w') : StepAt Tryz.prog Q a sl (I w1 s s' nb tb n' t' A A' n c n2 c2 rb) 3 o := by
  refine ⟨⟨hg, by rw [hds]; decide⟩, ?_⟩
  rintro d u W ⟨g, h⟩ hd hdep K hK
  rw [hds] at hK
  have e1 := eval_new (a := a) (u := u) (slots := sl) (t := 26) (by decide) (by decide) (by omega)
  have e2 := eval_new (a := a) (u := u) (slots := sl) (t := 28) (by decide) (by decide) (by omega)
  rw [h.f0 (hdep 0 hd0)] at e1
  have hn := h.fB (hdep 2 hdB) hd
  have hC := cO W _ h.bel hn
  obtain ⟨b, hbv, _⟩ := hn
  rw [hbv] at e2 hC
  refine wp_callsD hds 64 _ ?_ (hC.mono ?_)
  · clear hK hdep h hd cO hC
    replace e1 := tmpE e1
    replace e2 := tmpE e2
    simp only [execOp, hop]
    go_simp
  · rintro e w' ⟨rfl, hb⟩
    exact ⟨_, rfl, hK _ _ ⟨g, { h.kept hb with cM := fun _ => rfl, cX := fun _ => rfl, cS := fun _ => rfl, fB := fun _ q => Bool.noConfusion (show true = false from q), fC := fun _ => rfl }⟩⟩
set_option maxRecDepth 100000 in
theorem stM {o : Oper} (hg : o.guard = none) (hds : o.dst = some 25) (hop : o.op = .move (.tmp 29)) (hs : 36 ≤ a.tmps.size) (hdC : 3 ∈ deps o) : StepAt Tryz.prog Q a sl (I w1 s s' nb tb n' t' A A' n c n2 c2 rb) 4 o := by
  refine ⟨⟨hg, by rw [hds]; decide⟩, ?_⟩
  rintro d u W ⟨g, h⟩ hd hdep K hK
  rw [hds] at hK
  have e1 := eval_new (a := a) (u := u) (slots := sl) (t := 29) (by decide) (by decide) (by omega)
  rw [h.fC (hdep 3 hdC)] at e1
  refine wp_yields (w' := W) hds (.tuple #[EE s' n' t' A' n2 c2, .bool rb]) ?_ (hK _ _ ⟨g, { h with cM := fun _ => hdep 3 hdC, fM := fun _ => rfl }⟩)
  clear hK hdep h hd
  simp only [execOp, hop, e1]
  go_simp
set_option maxRecDepth 100000 in
theorem stX {o : Oper} (hg : o.guard = none) (hds : o.dst = some 30) (hop : o.op = .extract (.tmp 25) 0) (hs : 36 ≤ a.tmps.size) (hdM : 4 ∈ deps o) : StepAt Tryz.prog Q a sl (I w1 s s' nb tb n' t' A A' n c n2 c2 rb) 5 o := by
  refine ⟨⟨hg, by rw [hds]; decide⟩, ?_⟩
  rintro d u W ⟨g, h⟩ hd hdep K hK
  rw [hds] at hK
  have e1 := eval_new (a := a) (u := u) (slots := sl) (t := 25) (by decide) (by decide) (by omega)
  rw [h.fM (hdep 4 hdM)] at e1
  refine wp_yields (w' := W) hds (EE s' n' t' A' n2 c2) ?_ (hK _ _ ⟨g, { h with cX := fun _ => h.cM (hdep 4 hdM), fX := fun _ => rfl }⟩)
  clear hK hdep h hd
  simp only [execOp, hop, e1]
  go_simp
set_option maxRecDepth 100000 in
theorem stY {o : Oper} (hg : o.guard = none) (hds : o.dst = some 31) (hop : o.op = .extract (.tmp 25) 1) (hs : 36 ≤ a.tmps.size) (hdM : 4 ∈ deps o) : StepAt Tryz.prog Q a sl (I w1 s s' nb tb n' t' A A' n c n2 c2 rb) 6 o := by
  refine ⟨⟨hg, by rw [hds]; decide⟩, ?_⟩
  rintro d u W ⟨g, h⟩ hd hdep K hK
  rw [hds] at hK
  have e1 := eval_new (a := a) (u := u) (slots := sl) (t := 25) (by decide) (by decide) (by omega)
  rw [h.fM (hdep 4 hdM)] at e1
  refine wp_yields (w' := W) hds (.bool rb) ?_ (hK _ _ ⟨g, { h with fY := fun _ => rfl }⟩)
  clear hK hdep h hd
  simp only [execOp, hop, e1]
  go_simp
set_option maxRecDepth 100000 in
theorem stP {o : Oper} (hg : o.guard = none) (hds : o.dst = some 6) (hop : o.op = .alloc 59) : StepAt Tryz.prog Q a sl (I w1 s s' nb tb n' t' A A' n c n2 c2 rb) 7 o := by
  refine ⟨⟨hg, by rw [hds]; decide⟩, ?_⟩
  rintro d u W ⟨g, h⟩ hd hdep K hK
  rw [hds] at hK
  have hb : Below W.heap.size W (W.alloc zB) := (Below.refl _ _).alloc (Nat.le_refl _) _
  have hS : d 8 = false := by
    cases hh : d 8 with
    | false => rfl
    | true => have := h.cP hh; rw [hd] at this; cases this
  refine wp_yields (w' := W.alloc zB) hds (.pointer (some ⟨W.heap.size, 0, none⟩)) ?_ (hK _ _ ⟨W.heap.size, { h.kept hb with cP := fun _ => rfl, fP := fun _ => ⟨rfl, h.bel.size, ?_⟩ }⟩)
  · clear hK hdep h hd hS hb
    unfold zB
    simp only [execOp, hop]
    go_simp
  · show _ = some (bif d 8 then _ else _)
    rw [hS]
    exact heap_alloc_new W _
set_option maxRecDepth 100000 in
theorem stS {o : Oper} (hg : o.guard = none) (hds : o.dst = none) (hop : o.op = .store 59 (.tmp 6) (.tmp 30)) (hs : 36 ≤ a.tmps.size) (hdX : 5 ∈ deps o) (hdP : 7 ∈ deps o) : StepAt Tryz.prog Q a sl (I w1 s s' nb tb n' t' A A' n c n2 c2 rb) 8 o := by
  refine ⟨⟨hg, by rw [hds]; rfl⟩, ?_⟩
  rintro d u W ⟨g, h⟩ hd hdep K hK
  rw [hds] at hK
  have dX := hdep 5 hdX
  have dP := hdep 7 hdP
  have e1 := eval_new (a := a) (u := u) (slots := sl) (t := 6) (by decide) (by decide) (by omega)
  have e2 := eval_new (a := a) (u := u) (slots := sl) (t := 30) (by decide) (by decide) (by omega)
  obtain ⟨p1, p2, p3⟩ := h.fP dP
  rw [p1] at e1
  rw [h.fX dX] at e2
  rw [hd] at p3
  have p3 : W.heap[g]? = some zB := p3
  obtain ⟨z0, z1, z2, z3, y0, y1, y2, y3, _⟩ := cellsE p3
  have hb : ∀ v0 v1 v2 v3, Below w1.heap.size w1 ((((W.setCell ⟨g, 0, none⟩ v0).setCell ⟨g, 1, none⟩ v1).setCell ⟨g, 2, none⟩ v2).setCell ⟨g, 3, none⟩ v3) := fun v0 v1 v2 v3 =>
    (((h.bel.setCell (p := ⟨g, 0, none⟩) p2 _).setCell (p := ⟨g, 1, none⟩) p2 _).setCell (p := ⟨g, 2, none⟩) p2 _).setCell (p := ⟨g, 3, none⟩) p2 _
  have hcl : ∀ v0 v1 v2 v3, ((((W.setCell ⟨g, 0, none⟩ v0).setCell ⟨g, 1, none⟩ v1).setCell ⟨g, 2, none⟩ v2).setCell ⟨g, 3, none⟩ v3).heap[g]? = some (.cells #[v0, v1, v2, v3] 59 (0, 0)) := fun v0 v1 v2 v3 => by
    simp [World.setCell, Array.getElem?_modify, p3, zB]
  refine wp_skips (w' := (((W.setCell ⟨g, 0, none⟩ (.int .i64 s')).setCell ⟨g, 1, none⟩ (.string n')).setCell ⟨g, 2, none⟩ (.string t')).setCell ⟨g, 3, none⟩ (.slice A' n2 c2)) hds ?_ (hK undef _ ⟨g, { h with bel := hb _ _ _ _, cS := fun _ => h.cX dX, cP := fun _ => dP, fB := fun _ q => absurd (h.cX dX) (by rw [show d 3 = false from q]; decide), fP := fun _ => ⟨p1, p2, hcl _ _ _ _⟩ }⟩)
  clear hK hdep h hd hb hcl p3
  simp only [execOp, hop, e1, e2]
  go_simp
set_option maxRecDepth 100000 in
theorem stQ {o : Oper} (hg : o.guard = none) (hds : o.dst = some 7) (hop : o.op = .assign (.tmp 31)) (hs : 36 ≤ a.tmps.size) (hdY : 6 ∈ deps o) : StepAt Tryz.prog Q a sl (I w1 s s' nb tb n' t' A A' n c n2 c2 rb) 9 o := by
  refine ⟨⟨hg, by rw [hds]; decide⟩, ?_⟩
  rintro d u W ⟨g, h⟩ hd hdep K hK
  rw [hds] at hK
  have e1 := eval_new (a := a) (u := u) (slots := sl) (t := 31) (by decide) (by decide) (by omega)
  rw [h.fY (hdep 6 hdY)] at e1
  refine wp_yields (w' := W) hds (.bool rb) ?_ (hK _ _ ⟨g, { h with fQ := fun _ => rfl }⟩)
  clear hK hdep h hd
  simp only [execOp, hop, e1]
  go_simp
end
theorem N.start {w1 W : World} {s s' : Int} {nb tb n' t' : ByteArray} {A A' : Option Addr} {n c n2 c2 : Nat} {rb : Bool} {u : Nat → Value} (hb : Below w1.heap.size w1 W) : I w1 s s' nb tb n' t' A A' n c n2 c2 rb (fun _ => false) u W :=
  ⟨0, ⟨hb, nofun, nofun, nofun, nofun, nofun, nofun, nofun, nofun, nofun, nofun, nofun, nofun, nofun⟩⟩
end Go.Proofs.YtmmpojhjpghdlaaGreatDoor.Dv.T7
namespace Go.Proofs.YtmmpojhjpghdlaaGreatDoor.Dv.P1
open Go.Lib Go.RowKit Rg
open Xm (sv)
def sl : List Nat := [8, 9, 10, 11, 12, 13, 7, 14, 15, 4, 5]
abbrev EE (s : Int) (nb tb : ByteArray) (A : Option Addr) (n c : Nat) : Value := .agg #[.int .i64 s, .string nb, .string tb, .slice A n c]
structure N (w1 : World) (s s' : Int) (nb tb n' t' : ByteArray) (A A' : Option Addr) (n c n2 c2 : Nat) (rb : Bool) (g : Nat) (d : Nat → Bool) (u : Nat → Value) (W : World) : Prop where
  bel : Below w1.heap.size w1 W
  cM : d 6 = true → d 5 = true
  cX : d 7 = true → d 5 = true
  cS : d 10 = true → d 5 = true
  cP : d 10 = true → d 9 = true
  f0 : d 0 = true → u 8 = EE s nb tb A n c
  f1 : d 1 = true → u 9 = .agg #[.int .i64 1, .string ⟨#[97, 108, 108, 112, 114, 111, 112]⟩]
  f2 : d 2 = true → u 10 = .agg #[.int .i64 1, .string ⟨#[112, 114, 111, 112, 110, 97, 109, 101]⟩]
  f3 : d 3 = true → u 11 = .agg #[.int .i64 1, .string ⟨#[112, 114, 111, 112]⟩]
  fB : d 4 = true → d 5 = false → NmsAt W (u 12) [((1 : Int), (⟨#[97, 108, 108, 112, 114, 111, 112]⟩ : ByteArray)), ((1 : Int), (⟨#[112, 114, 111, 112, 110, 97, 109, 101]⟩ : ByteArray)), ((1 : Int), (⟨#[112, 114, 111, 112]⟩ : ByteArray))]
  fC : d 5 = true → u 13 = .tuple #[EE s' n' t' A' n2 c2, .bool rb]
  fM : d 6 = true → u 7 = .tuple #[EE s' n' t' A' n2 c2, .bool rb]
  fX : d 7 = true → u 14 = EE s' n' t' A' n2 c2
  fY : d 8 = true → u 15 = .bool rb
  fP : d 9 = true → u 4 = .pointer (some ⟨g, 0, none⟩) ∧ w1.heap.size ≤ g ∧ W.heap[g]? = some (bif d 10 then elB s' n' t' (.slice A' n2 c2) else zB)
  fQ : d 11 = true → u 5 = .bool rb
def I (w1 : World) (s s' : Int) (nb tb n' t' : ByteArray) (A A' : Option Addr) (n c n2 c2 : Nat) (rb : Bool) (d : Nat → Bool) (u : Nat → Value) (W : World) : Prop := ∃ g, N w1 s s' nb tb n' t' A A' n c n2 c2 rb g d u W
section
variable {Q : Exit → Act → World → Prop} {a : Act} {w1 : World} {s s' : Int} {nb tb n' t' : ByteArray} {A A' : Option Addr} {n c n2 c2 : Nat} {rb : Bool} {g : Nat} {d : Nat → Bool} {u : Nat → Value} {W : World}
theorem N.kept (h : N w1 s s' nb tb n' t' A A' n c n2 c2 rb g d u W) {W' : World} (hb : Below W.heap.size W W') : N w1 s s' nb tb n' t' A A' n c n2 c2 rb g d u W' :=
  { h with
    bel := Xm.below_then h.bel hb
    fB := fun h1 h2 => (h.fB h1 h2).kept hb
    fP := fun h1 => have k := h.fP h1; ⟨k.1, k.2.1, blk_at k.2.2 hb⟩ }
set_option maxRecDepth 100000 in
theorem st0 {o : Oper} (hg : o.guard = none) (hds : o.dst = some 8) (hop : o.op = .load 59 (.tmp 1)) (gs : Nat) (h5 : a.eval (.tmp 1) = .pointer (some ⟨gs, 0, none⟩)) (hc : ∀ W, Below w1.heap.size w1 W → W.heap[gs]? = some (elB s nb tb (.slice A n c))) : StepAt Tryz.prog Q a sl (I w1 s s' nb tb n' t' A A' n c n2 c2 rb) 0 o := by
  refine ⟨⟨hg, by rw [hds]; decide⟩, ?_⟩
  rintro d u W ⟨g, h⟩ hd hdep K hK
  rw [hds] at hK
  have e2 := eval_old (u := u) (slots := sl) (by decide) h5
  obtain ⟨x0, x1, x2, x3, _⟩ := cellsE (hc W h.bel)
  refine wp_yields (w' := W) hds (EE s nb tb A n c) ?_ (hK _ _ ⟨g, { h with f0 := fun _ => rfl }⟩)
  clear hK hdep h hd hc
  simp only [execOp, hop, e2]
  go_simp
set_option maxRecDepth 100000 in
theorem st1 {o : Oper} (hg : o.guard = none) (hds : o.dst = some 9) (hop : o.op = .call { callee := .value (.func 40), args := #[.const (.string ⟨#[97, 108, 108, 112, 114, 111, 112]⟩)], argTypes := #[9] }) : StepAt Tryz.prog Q a sl (I w1 s s' nb tb n' t' A A' n c n2 c2 rb) 1 o := by
  refine ⟨⟨hg, by rw [hds]; decide⟩, ?_⟩
  rintro d u W ⟨g, h⟩ hd hdep K hK
  rw [hds] at hK
  refine wp_callsD hds 40 #[.string ⟨#[97, 108, 108, 112, 114, 111, 112]⟩] ?_ ((dav_any ⟨#[97, 108, 108, 112, 114, 111, 112]⟩ W).mono ?_)
  · clear hK hdep h hd
    simp only [execOp, hop]
    go_simp
  · rintro e w' ⟨rfl, hb⟩
    exact ⟨_, rfl, hK _ _ ⟨g, { h.kept hb with f1 := fun _ => rfl }⟩⟩
set_option maxRecDepth 100000 in
theorem st2 {o : Oper} (hg : o.guard = none) (hds : o.dst = some 10) (hop : o.op = .call { callee := .value (.func 40), args := #[.const (.string ⟨#[112, 114, 111, 112, 110, 97, 109, 101]⟩)], argTypes := #[9] }) : StepAt Tryz.prog Q a sl (I w1 s s' nb tb n' t' A A' n c n2 c2 rb) 2 o := by
  refine ⟨⟨hg, by rw [hds]; decide⟩, ?_⟩
  rintro d u W ⟨g, h⟩ hd hdep K hK
  rw [hds] at hK
  refine wp_callsD hds 40 #[.string ⟨#[112, 114, 111, 112, 110, 97, 109, 101]⟩] ?_ ((dav_any ⟨#[112, 114, 111, 112, 110, 97, 109, 101]⟩ W).mono ?_)
  · clear hK hdep h hd
    simp only [execOp, hop]
    go_simp
  · rintro e w' ⟨rfl, hb⟩
    exact ⟨_, rfl, hK _ _ ⟨g, { h.kept hb with f2 := fun _ => rfl }⟩⟩
set_option maxRecDepth 100000 in
theorem st3 {o : Oper} (hg : o.guard = none) (hds : o.dst = some 11) (hop : o.op = .call { callee := .value (.func 40), args := #[.const (.string ⟨#[112, 114, 111, 112]⟩)], argTypes := #[9] }) : StepAt Tryz.prog Q a sl (I w1 s s' nb tb n' t' A A' n c n2 c2 rb) 3 o := by
  refine ⟨⟨hg, by rw [hds]; decide⟩, ?_⟩
  rintro d u W ⟨g, h⟩ hd hdep K hK
  rw [hds] at hK
  refine wp_callsD hds 40 #[.string ⟨#[112, 114, 111, 112]⟩] ?_ ((dav_any ⟨#[112, 114, 111, 112]⟩ W).mono ?_)
  · clear hK hdep h hd
    simp only [execOp, hop]
    go_simp
  · rintro e w' ⟨rfl, hb⟩
    exact ⟨_, rfl, hK _ _ ⟨g, { h.kept hb with f3 := fun _ => rfl }⟩⟩
theorem N.noC (h : N w1 s s' nb tb n' t' A A' n c n2 c2 rb g d u W) (h1 : d 5 = false) : d 6 = false ∧ d 7 = false ∧ d 10 = false := by
  refine ⟨?_, ?_, ?_⟩
  · cases hh : d 6 with
    | false => rfl
    | true => have := h.cM hh; rw [h1] at this; cases this
  · cases hh : d 7 with
    | false => rfl
    | true => have := h.cX hh; rw [h1] at this; cases this
  · cases hh : d 10 with
    | false => rfl
    | true => have := h.cS hh; rw [h1] at this; cases this
set_option maxRecDepth 100000 in
theorem stB {o : Oper} (hg : o.guard = none) (hds : o.dst = some 12) (hop : o.op = .buildSlice 27 3 #[(0, .tmp 9), (1, .tmp 10), (2, .tmp 11)]) (hs : 37 ≤ a.tmps.size) (hda1 : 1 ∈ deps o) (hda2 : 2 ∈ deps o) (hda3 : 3 ∈ deps o) : StepAt Tryz.prog Q a sl (I w1 s s' nb tb n' t' A A' n c n2 c2 rb) 4 o := by
  refine ⟨⟨hg, by rw [hds]; decide⟩, ?_⟩
  rintro d u W ⟨g, h⟩ hd hdep K hK
  rw [hds] at hK
  have e1 := eval_new (a := a) (u := u) (slots := sl) (t := 9) (by decide) (by decide) (by omega)
  rw [h.f1 (hdep 1 hda1)] at e1
  have e2 := eval_new (a := a) (u := u) (slots := sl) (t := 10) (by decide) (by decide) (by omega)
  rw [h.f2 (hdep 2 hda2)] at e2
  have e3 := eval_new (a := a) (u := u) (slots := sl) (t := 11) (by decide) (by decide) (by omega)
  rw [h.f3 (hdep 3 hda3)] at e3
  obtain ⟨ob, hob⟩ : ∃ ob, (Obj.cells #[.int .i64 1, .string ⟨#[97, 108, 108, 112, 114, 111, 112]⟩, .int .i64 1, .string ⟨#[112, 114, 111, 112, 110, 97, 109, 101]⟩, .int .i64 1, .string ⟨#[112, 114, 111, 112]⟩] 24 (0, 0) : Obj) = ob := ⟨_, rfl⟩
  have hb : Below W.heap.size W (W.alloc ob) := (Below.refl _ _).alloc (Nat.le_refl _) _
  have hnm : NmsAt (W.alloc ob) (.slice (some ⟨W.heap.size, 0, none⟩) 3 3) [((1 : Int), (⟨#[97, 108, 108, 112, 114, 111, 112]⟩ : ByteArray)), ((1 : Int), (⟨#[112, 114, 111, 112, 110, 97, 109, 101]⟩ : ByteArray)), ((1 : Int), (⟨#[112, 114, 111, 112]⟩ : ByteArray))] := by rw [← hob]; exact nms3 _ 1 1 1 ⟨#[97, 108, 108, 112, 114, 111, 112]⟩ ⟨#[112, 114, 111, 112, 110, 97, 109, 101]⟩ ⟨#[112, 114, 111, 112]⟩
  refine wp_yields (w' := W.alloc ob) hds (.slice (some ⟨W.heap.size, 0, none⟩) 3 3) ?_ (hK _ _ ⟨g, { h.kept hb with fB := fun _ _ => hnm }⟩)
  subst hob
  clear hK hdep h hd hnm
  simp only [execOp, hop, List.map_toArray, List.map_cons, List.map_nil, e1, e2, e3]
  go_simp
set_option maxRecDepth 100000 in
theorem stC {o : Oper} (hg : o.guard = none) (hds : o.dst = some 13) (hop : o.op = .call { callee := .value (.func 64), args := #[.tmp 8, .tmp 12], argTypes := #[59, 27] }) (hs : 37 ≤ a.tmps.size) (hd0 : 0 ∈ deps o) (hdB : 4 ∈ deps o)
    (cO : ∀ W v, Below w1.heap.size w1 W → NmsAt W v [((1 : Int), (⟨#[97, 108, 108, 112, 114, 111, 112]⟩ : ByteArray)), ((1 : Int), (⟨#[112, 114, 111, 112, 110, 97, 109, 101]⟩ : ByteArray)), ((1 : Int), (⟨#[112, 114, 111, 112]⟩ : ByteArray))] → Calls Tryz.prog 64 #[EE s nb tb A n c, v] W fun e w' => e = .returned (.tuple #[EE s' n' t' A' n2 c2, .bool rb]) ∧ Below W.heap.size W w') : StepAt Tryz.prog Q a sl (I w1 s s' nb tb n' t' A A' n c n2 c2 rb) 5 o := by
  refine ⟨⟨hg, by rw [hds]; decide⟩, ?_⟩
  rintro d u W ⟨g, h⟩ hd hdep K hK
  rw [hds] at hK
  have e1 := eval_new (a := a) (u := u) (slots := sl) (t := 8) (by decide) (by decide) (by omega)
  have e2 := eval_new (a := a) (u := u) (slots := sl) (t := 12) (by decide) (by decide) (by omega)
  rw [h.f0 (hdep 0 hd0)] at e1
  have hn := h.fB (hdep 4 hdB) hd
  have hC := cO W _ h.bel hn
  obtain ⟨b, hbv, _⟩ := hn
  rw [hbv] at e2 hC
  refine wp_callsD hds 64 _ ?_ (hC.mono ?_)
  · clear hK hdep h hd cO hC
    replace e1 := tmpE e1
    replace e2 := tmpE e2
    simp only [execOp, hop]
    go_simp
  · rintro e w' ⟨rfl, hb⟩
    exact ⟨_, rfl, hK _ _ ⟨g, { h.kept hb with cM := fun _ => rfl, cX := fun _ => rfl, cS := fun _ => rfl, fB := fun _ q => Bool.noConfusion (show true = false from q), fC := fun _ => rfl }⟩⟩
set_option maxRecDepth 100000 in
theorem stM {o : Oper} (hg : o.guard = none) (hds : o.dst = some 7) (hop : o.op = .move (.tmp 13)) (hs : 37 ≤ a.tmps.size) (hdC : 5 ∈ deps o) : StepAt Tryz.prog Q a sl (I w1 s s' nb tb n' t' A A' n c n2 c2 rb) 6 o := by
  refine ⟨⟨hg, by rw [hds]; decide⟩, ?_⟩
  rintro d u W ⟨g, h⟩ hd hdep K hK
  rw [hds] at hK
  have e1 := eval_new (a := a) (u := u) (slots := sl) (t := 13) (by decide) (by decide) (by omega)
  rw [h.fC (hdep 5 hdC)] at e1
  refine wp_yields (w' := W) hds (.tuple #[EE s' n' t' A' n2 c2, .bool rb]) ?_ (hK _ _ ⟨g, { h with cM := fun _ => hdep 5 hdC, fM := fun _ => rfl }⟩)
  clear hK hdep h hd
  simp only [execOp, hop, e1]
  go_simp
set_option maxRecDepth 100000 in
theorem stX {o : Oper} (hg : o.guard = none) (hds : o.dst = some 14) (hop : o.op = .extract (.tmp 7) 0) (hs : 37 ≤ a.tmps.size) (hdM : 6 ∈ deps o) : StepAt Tryz.prog Q a sl (I w1 s s' nb tb n' t' A A' n c n2 c2 rb) 7 o := by
  refine ⟨⟨hg, by rw [hds]; decide⟩, ?_⟩
  rintro d u W ⟨g, h⟩ hd hdep K hK
  rw [hds] at hK
  have e1 := eval_new (a := a) (u := u) (slots := sl) (t := 7) (by decide) (by decide) (by omega)
  rw [h.fM (hdep 6 hdM)] at e1
  refine wp_yields (w' := W) hds (EE s' n' t' A' n2 c2) ?_ (hK _ _ ⟨g, { h with cX := fun _ => h.cM (hdep 6 hdM), fX := fun _ => rfl }⟩)
  clear hK hdep h hd
  simp only [execOp, hop, e1]
  go_simp
set_option maxRecDepth 100000 in
theorem stY {o : Oper} (hg : o.guard = none) (hds : o.dst = some 15) (hop : o.op = .extract (.tmp 7) 1) (hs : 37 ≤ a.tmps.size) (hdM : 6 ∈ deps o) : StepAt Tryz.prog Q a sl (I w1 s s' nb tb n' t' A A' n c n2 c2 rb) 8 o := by
  refine ⟨⟨hg, by rw [hds]; decide⟩, ?_⟩
  rintro d u W ⟨g, h⟩ hd hdep K hK
  rw [hds] at hK
  have e1 := eval_new (a := a) (u := u) (slots := sl) (t := 7) (by decide) (by decide) (by omega)
  rw [h.fM (hdep 6 hdM)] at e1
  refine wp_yields (w' := W) hds (.bool rb) ?_ (hK _ _ ⟨g, { h with fY := fun _ => rfl }⟩)
  clear hK hdep h hd
  simp only [execOp, hop, e1]
  go_simp
set_option maxRecDepth 100000 in
theorem stP {o : Oper} (hg : o.guard = none) (hds : o.dst = some 4) (hop : o.op = .alloc 59) : StepAt Tryz.prog Q a sl (I w1 s s' nb tb n' t' A A' n c n2 c2 rb) 9 o := by
  refine ⟨⟨hg, by rw [hds]; decide⟩, ?_⟩
  rintro d u W ⟨g, h⟩ hd hdep K hK
  rw [hds] at hK
  have hb : Below W.heap.size W (W.alloc zB) := (Below.refl _ _).alloc (Nat.le_refl _) _
  have hS : d 10 = false := by
    cases hh : d 10 with
    | false => rfl
    | true => have := h.cP hh; rw [hd] at this; cases this
  refine wp_yields (w' := W.alloc zB) hds (.pointer (some ⟨W.heap.size, 0, none⟩)) ?_ (hK _ _ ⟨W.heap.size, { h.kept hb with cP := fun _ => rfl, fP := fun _ => ⟨rfl, h.bel.size, ?_⟩ }⟩)
  · clear hK hdep h hd hS hb
    unfold zB
    simp only [execOp, hop]
    go_simp
  · show _ = some (bif d 10 then _ else _)
    rw [hS]
    exact heap_alloc_new W _
set_option maxRecDepth 100000 in
theorem stS {o : Oper} (hg : o.guard = none) (hds : o.dst = none) (hop : o.op = .store 59 (.tmp 4) (.tmp 14)) (hs : 37 ≤ a.tmps.size) (hdX : 7 ∈ deps o) (hdP : 9 ∈ deps o) : StepAt Tryz.prog Q a sl (I w1 s s' nb tb n' t' A A' n c n2 c2 rb) 10 o := by
  refine ⟨⟨hg, by rw [hds]; rfl⟩, ?_⟩
  rintro d u W ⟨g, h⟩ hd hdep K hK
  rw [hds] at hK
  have dX := hdep 7 hdX
  have dP := hdep 9 hdP
  have e1 := eval_new (a := a) (u := u) (slots := sl) (t := 4) (by decide) (by decide) (by omega)
  have e2 := eval_new (a := a) (u := u) (slots := sl) (t := 14) (by decide) (by decide) (by omega)
  obtain ⟨p1, p2, p3⟩ := h.fP dP
  rw [p1] at e1
  rw [h.fX dX] at e2
  rw [hd] at p3
  have p3 : W.heap[g]? = some zB := p3
  obtain ⟨z0, z1, z2, z3, y0, y1, y2, y3, _⟩ := cellsE p3
  have hb : ∀ v0 v1 v2 v3, Below w1.heap.size w1 ((((W.setCell ⟨g, 0, none⟩ v0).setCell ⟨g, 1, none⟩ v1).setCell ⟨g, 2, none⟩ v2).setCell ⟨g, 3, none⟩ v3) := fun v0 v1 v2 v3 =>
    (((h.bel.setCell (p := ⟨g, 0, none⟩) p2 _).setCell (p := ⟨g, 1, none⟩) p2 _).setCell (p := ⟨g, 2, none⟩) p2 _).setCell (p := ⟨g, 3, none⟩) p2 _
  have hcl : ∀ v0 v1 v2 v3, ((((W.setCell ⟨g, 0, none⟩ v0).setCell ⟨g, 1, none⟩ v1).setCell ⟨g, 2, none⟩ v2).setCell ⟨g, 3, none⟩ v3).heap[g]? = some (.cells #[v0, v1, v2, v3] 59 (0, 0)) := fun v0 v1 v2 v3 => by
    simp [World.setCell, Array.getElem?_modify, p3, zB]
  refine wp_skips (w' := (((W.setCell ⟨g, 0, none⟩ (.int .i64 s')).setCell ⟨g, 1, none⟩ (.string n')).setCell ⟨g, 2, none⟩ (.string t')).setCell ⟨g, 3, none⟩ (.slice A' n2 c2)) hds ?_ (hK undef _ ⟨g, { h with bel := hb _ _ _ _, cS := fun _ => h.cX dX, cP := fun _ => dP, fB := fun _ q => absurd (h.cX dX) (by rw [show d 5 = false from q]; decide), fP := fun _ => ⟨p1, p2, hcl _ _ _ _⟩ }⟩)
  clear hK hdep h hd hb hcl p3
  simp only [execOp, hop, e1, e2]
  go_simp
set_option maxRecDepth 100000 in
theorem stQ {o : Oper} (hg : o.guard = none) (hds : o.dst = some 5) (hop : o.op = .assign (.tmp 15)) (hs : 37 ≤ a.tmps.size) (hdY : 8 ∈ deps o) : StepAt Tryz.prog Q a sl (I w1 s s' nb tb n' t' A A' n c n2 c2 rb) 11 o := by
  refine ⟨⟨hg, by rw [hds]; decide⟩, ?_⟩
  rintro d u W ⟨g, h⟩ hd hdep K hK
  rw [hds] at hK
  have e1 := eval_new (a := a) (u := u) (slots := sl) (t := 15) (by decide) (by decide) (by omega)
  rw [h.fY (hdep 8 hdY)] at e1
  refine wp_yields (w' := W) hds (.bool rb) ?_ (hK _ _ ⟨g, { h with fQ := fun _ => rfl }⟩)
  clear hK hdep h hd
  simp only [execOp, hop, e1]
  go_simp
end
theorem N.start {w1 W : World} {s s' : Int} {nb tb n' t' : ByteArray} {A A' : Option Addr} {n c n2 c2 : Nat} {rb : Bool} {u : Nat → Value} (hb : Below w1.heap.size w1 W) : I w1 s s' nb tb n' t' A A' n c n2 c2 rb (fun _ => false) u W :=
  ⟨0, ⟨hb, nofun, nofun, nofun, nofun, nofun, nofun, nofun, nofun, nofun, nofun, nofun, nofun, nofun, nofun, nofun⟩⟩
end Go.Proofs.YtmmpojhjpghdlaaGreatDoor.Dv.P1

/-
  THE WALK OF dav.toldOf (written by tools/gentold.py): what is found in a multistatus.
-/
set_option linter.unusedVariables false
namespace Go.Proofs.YtmmpojhjpghdlaaGreatDoor.Dv
open Go.Lib Go.RowKit Rg
open Xm (Row Pc sv PsOwn PcsAt below_then sv_some sv_str)
open T5 (Oth tdB)

theorem ev_parts {e : EV} {s : Int} {nb tb : ByteArray} {A : Option Addr} {n c : Nat} (h : ev e = .agg #[.int .i64 s, .string nb, .string tb, .slice A n c]) : e.s = s ∧ sv e.n = .string nb ∧ sv e.t = .string tb ∧ e.k = .slice A n c := by
  unfold ev at h
  simp only [Value.agg.injEq, Array.mk.injEq, List.cons.injEq, and_true, Value.int.injEq, true_and] at h
  exact ⟨h.1, h.2.1, h.2.2.1, h.2.2.2⟩
theorem toldC {W : World} {g : Nat} {v : Value} {tk : ByteArray} (h : W.heap[g]? = some (tdB v tk)) : W.cell? ⟨g, 0, none⟩ = some v ∧ W.cell? ⟨g, 1, none⟩ = some (.string tk) ∧ W.frozen? ⟨g, 0, none⟩ = false ∧ W.frozen? ⟨g, 1, none⟩ = false ∧ g < W.heap.size :=
  ⟨(Lib.cell_of_heap h 0).trans rfl, (Lib.cell_of_heap h 1).trans rfl, Lib.frozen_of_heap h 0, Lib.frozen_of_heap h 1, (Array.getElem?_eq_some_iff.1 h).1⟩
theorem nmd_mem {ns : List Nm} {ks : List El} {y : El} (h : y ∈ nmd ns ks) : y ∈ ks := by unfold nmd at h; exact (List.mem_filter.1 h).1
theorem map_take {es : List El} {k : Nat} {y : El} (h : es[k]? = some y) : (es.take (k + 1)).map itemP = (es.take k).map itemP ++ [itemP y] := by
  obtain ⟨hl, hv⟩ := List.getElem?_eq_some_iff.1 h
  rw [List.take_succ_eq_append_getElem hl, List.map_append, hv]; rfl
set_option maxHeartbeats 16000000 in
set_option maxRecDepth 100000 in
theorem toldOf_any {w0 : World} {x : El} {nb tb : ByteArray} {A : Option Addr} {n c : Nat} (hE : ElB w0 x nb tb A n c) (w : World) (hW : Below w0.heap.size w0 w) :
    Calls Tryz.prog 34 #[.agg #[.int .i64 x.s, .string nb, .string tb, .slice A n c]] w fun e w' => (∃ rv tk, e = .returned (.agg #[rv, .string tk]) ∧ IsOwn w.heap.size rv (toldP x).items w' ∧ tk.data.toList = (toldP x).token) ∧ Below w.heap.size w w' := by
  obtain ⟨nb1, tb1, A1, n1, c1, hE1, cO1⟩ := only_el hE ([((1 : Int), (⟨#[115, 121, 110, 99, 45, 116, 111, 107, 101, 110]⟩ : ByteArray))] : List NB)
  obtain ⟨q1, hq1⟩ : ∃ q, onlyP (([((1 : Int), (⟨#[115, 121, 110, 99, 45, 116, 111, 107, 101, 110]⟩ : ByteArray))] : List NB).map nmR) x.ks = q := ⟨_, rfl⟩
  rw [hq1] at hE1 cO1
  obtain ⟨x1, b1⟩ := q1
  simp only at hE1 cO1
  obtain ⟨L, hP, cN⟩ := named_el hE ([((1 : Int), (⟨#[114, 101, 115, 112, 111, 110, 115, 101]⟩ : ByteArray))] : List NB)
  obtain ⟨es, hes⟩ : ∃ es, nmd (([((1 : Int), (⟨#[114, 101, 115, 112, 111, 110, 115, 101]⟩ : ByteArray))] : List NB).map nmR) x.ks = es := ⟨_, rfl⟩
  rw [hes] at hP
  have hsm : ∀ y ∈ es, Sm y := fun y hy => hE.sm.kid (nmd_mem (by rw [hes]; exact hy))
  have hlen : es.length ≤ 1099511627776 := by
    rw [← hes]
    exact Nat.le_trans (List.length_filter_le _ _) hE.sm.len
  obtain ⟨R, hR⟩ : ∃ R, toldP x = R := ⟨_, rfl⟩
  have hR' := Lib.hid (show (⟨es.map itemP, x1.t⟩ : Td) = R by
    rw [← hR]
    unfold toldP
    have e1 : onlyP [(1, stokS)] x.ks = (x1, b1) := hq1
    have e2 : nmd [(1, respS)] x.ks = es := hes
    simp only [e1, e2])
  rw [hR]
  have cO1 := Lib.hid cO1
  have tx1 := Lib.hid (sv_str hE1.tx)
  have hP' := Lib.hid hP
  have cN' := Lib.hid cN
  have hsm' := Lib.hid hsm
  have hlen' := Lib.hid hlen
  clear hR hE hE1 hq1 hP cN hes hsm hlen
  obtain ⟨Z, hZ⟩ : ∃ Z, w.heap.size = Z := ⟨_, rfl⟩
  obtain ⟨wB, hwB⟩ : ∃ wB, ((w.alloc (.cells #[.int .i64 x.s, .string nb, .string tb, .slice A n c] 59)).alloc (.cells #[.slice none 0 0, .string ⟨#[]⟩] 41)).alloc (.cells #[.slice none 0 0, .string ⟨#[]⟩] 41) = wB := ⟨_, rfl⟩
  have hbB : Below Z w wB := by rw [← hwB, ← hZ]; exact (((Below.refl _ _).alloc (Nat.le_refl _) _).alloc (by simp) _).alloc (by simp; omega) _
  have hsB : wB.heap.size = Z + 3 := by rw [← hwB, ← hZ]; simp
  have hpB : wB.heap[Z]? = some (elB x.s nb tb (.slice A n c)) := by rw [← hwB, Below.heap_alloc _ _ _ (by simp; omega), ← hZ]; exact heap_alloc2_old w _ _
  have hrB : wB.heap[Z + 1]? = some (tdB (.slice none 0 0) ⟨#[]⟩) := by rw [← hwB, Below.heap_alloc _ _ _ (by simp; omega), ← hZ]; exact heap_alloc2_new w _ _
  have htB : wB.heap[Z + 2]? = some (tdB (.slice none 0 0) ⟨#[]⟩) := by
    rw [← hwB, ← hZ]
    have := heap_alloc_new ((w.alloc (.cells #[.int .i64 x.s, .string nb, .string tb, .slice A n c] 59)).alloc (.cells #[.slice none 0 0, .string ⟨#[]⟩] 41)) (.cells #[.slice none 0 0, .string ⟨#[]⟩] 41)
    rw [show ((w.alloc (.cells #[.int .i64 x.s, .string nb, .string tb, .slice A n c] 59)).alloc (.cells #[.slice none 0 0, .string ⟨#[]⟩] 41)).heap.size = w.heap.size + 2 by simp] at this
    exact this
  have hpB := Lib.hid hpB
  have hrB := Lib.hid hrB
  have htB := Lib.hid htB
  have hsB := Lib.hid hsB
  have hbe_wB := Lib.hid (hW.trans (show Below w0.heap.size w wB from hbB.mono (by rw [← hZ]; exact hW.size)))
  have hbw_wB := Lib.hid hbB
  have hZ' := Lib.hid hZ
  have hw0Z : w0.heap.size ≤ Z := by rw [← hZ]; exact hW.size
  clear hbB hW
  go_enter Tryz.func34, Tryz.ntmps34
  go_wp2
  go_upto_region 2 with fail
  go_cut [11, 12, 13] from 8 to 10 (fun s11 s12 s13 wx => ∃ fA fc, s11 = .slice fA L.length fc ∧ s12 = .int .i64 (L.length : Int) ∧ s13 = .int .i64 0 ∧ Hid (EsOwn wB.heap.size (.slice fA L.length fc) L wx) ∧ Hid (Below wB.heap.size wB wx))
  case first =>
    rename_i J K' hJ hK'
    refine Rg.region_mono (by kernel_rfl) [8, 9, 10, 11, 12, 13] (by decide) (by kernel_rfl) rfl (by kernel_rfl) rfl (FTn wB x.s nb tb A n c L) (FTn_mono wB x.s nb tb A n c L) ?_ ?_
    · exact ⟨ldEl rfl rfl rfl rfl (by decide) Z rfl x.s nb tb A n c (fun W hW => blk_at hpB.out hW) (fun _ => rfl),
        nmCall rfl rfl rfl ⟨#[114, 101, 115, 112, 111, 110, 115, 101]⟩ rfl (fun _ => rfl),
        bsNm rfl rfl rfl (k := 1) rfl (by decide) rfl 1 ⟨#[114, 101, 115, 112, 111, 110, 115, 101]⟩ (fun _ _ h => h) (fun _ _ h => h),
        ndCall rfl rfl rfl (k := 0) (k' := 2) rfl (by decide) rfl (by decide) rfl x.s nb tb A n c [(1, ⟨#[114, 101, 115, 112, 111, 110, 115, 101]⟩)] L (fun _ _ h => h) (fun _ _ h => h) (fun W v hW hn => cN'.out W v (hbe_wB.out.trans (hW.mono hbe_wB.out.size)) hn) (fun _ _ h => h),
        lenEs rfl rfl rfl (k := 3) rfl (by decide) rfl L (fun _ _ h => EsOwn.form h) (fun _ => rfl),
        mvZero rfl rfl rfl rfl (fun _ => rfl), trivial⟩
    · intro u W hWW hu
      have r1 : EsOwn wB.heap.size (u 11) L W := hu 3 11 rfl
      have r2 : u 12 = .int .i64 (L.length : Int) := hu 4 12 rfl
      have r3 : u 13 = .int .i64 0 := hu 5 13 rfl
      clear hu
      show K' _ _
      refine hK' _ _ (Met.intro (hJ _ _ ?_))
      unfold Rg.puts
      simp only [List.foldl_cons, List.foldl_nil, Act.put, List.setIfInBounds_toArray, List.set_cons_succ, List.set_cons_zero]
      repeat apply Exists.intro
      refine ⟨?relN, rfl⟩
      obtain ⟨fA, fc, q⟩ := r1.form
      exact ⟨fA, fc, q, r2, r3, Lib.hid (by rw [← q]; exact r1), Lib.hid hWW⟩
  case rest =>
    obtain ⟨fA, fc, rfl, rfl, rfl, hrow, hbc⟩ := hcut
    obtain ⟨w2, rfl⟩ : ∃ q, q = wc := ⟨_, rfl⟩
    obtain ⟨NL, hNL⟩ : ∃ NL, L.length = NL := ⟨_, rfl⟩
    rw [hNL] at hrow ⊢
    have hNL' := Lib.hid hNL
    have hs2 : Z + 3 ≤ w2.heap.size := by have := hbc.out.size; rw [hsB.out] at this; exact this
    have hp2 := Lib.hid (blk_at hpB.out hbc.out)
    have hr2 := Lib.hid (blk_at hrB.out hbc.out)
    have ht2 := Lib.hid (blk_at htB.out hbc.out)
    have hb2w := Lib.hid (show Below Z w w2 from hbw_wB.out.trans (hbc.out.mono hbw_wB.out.size |> fun h => h.mono (by have := hsB.out; have := hbw_wB.out.size; omega)))
    have hb20 := Lib.hid (hbe_wB.out.trans (hbc.out.mono hbe_wB.out.size))
    clear hNL hpB hrB htB
    go_wp2
    go_loopw [13] (fun s13 wr => ∃ (k : Nat) (rv : Value), s13 = .int .i64 (k : Int) ∧ k ≤ NL ∧ Hid (wr.heap[Z + 2]? = some (tdB rv ⟨#[]⟩)) ∧ Hid (IsOwn w2.heap.size rv ((es.take k).map itemP) wr) ∧ Hid (Oth w2.heap.size (Z + 2) w2 wr)) (fun s13 wr => NL - (RowKit.intOf s13).toNat)
    case atStart => exact ⟨0, _, rfl, Nat.zero_le _, ht2, Lib.hid (IsOwn.nil _ _), Lib.hid (Oth.refl _ _ _)⟩
    case round =>
      clear ht2
      obtain ⟨k, rv, rfl, hk, htr, hown, hoth⟩ := hrel
      have hsr : w2.heap.size ≤ wr.heap.size := hoth.out.size
      have hb0r := Lib.hid (show Below w0.heap.size w0 wr from ⟨hoth.out.os.trans hb20.out.os, hoth.out.tape.trans hb20.out.tape, hoth.out.output.trans hb20.out.output, Nat.le_trans hb20.out.size hsr, fun j hj => (hoth.out.block j (Nat.lt_of_lt_of_le hj hb20.out.size) (by omega)).trans (hb20.out.block j hj)⟩)
      have hpr := Lib.hid (show wr.heap[Z]? = some (elB x.s nb tb (.slice A n c)) by rw [hoth.out.block Z (by omega) (by omega)]; exact hp2.out)
      have hrr := Lib.hid (show wr.heap[Z + 1]? = some (tdB (.slice none 0 0) ⟨#[]⟩) by rw [hoth.out.block (Z + 1) (by omega) (by omega)]; exact hr2.out)
      obtain ⟨rA, rc, erv⟩ := Xm.ownsRow_form hown.out
      obtain ⟨rn, hrn⟩ : ∃ rn, ((es.take k).map itemP).length = rn := ⟨_, rfl⟩
      rw [hrn] at erv
      have hrn' := Lib.hid hrn
      clear hrn
      subst erv
      by_cases hlt : k < NL
      · have hel : es.length = NL := by rw [← hP'.out.1]; exact hNL'.out
        have hv : L[k]? = some (L[k]'(by have := hNL'.out; omega)) := List.getElem?_eq_getElem _
        have hy : es[k]? = some (es[k]'(by omega)) := List.getElem?_eq_getElem _
        obtain ⟨e, he⟩ : ∃ e, L[k]'(by have := hNL'.out; omega) = e := ⟨_, rfl⟩
        obtain ⟨y, hyy⟩ : ∃ y, es[k]'(by omega) = y := ⟨_, rfl⟩
        rw [he] at hv
        rw [hyy] at hy
        obtain ⟨p1, p2⟩ := hP'.out.2 k e y hv hy
        obtain ⟨nbk, tbk, Ak, nk, ck, hEk, hev⟩ := elB_of p1 p2 (hsm'.out y (List.mem_of_getElem? hy))
        obtain ⟨v1, v2, v3, v4⟩ := ev_parts hev
        have hat := hrow.out.at
        obtain ⟨fA', fb, foff, fc', z1, z2, z3, z4, z5⟩ := hat
        obtain ⟨z6, z7, z8⟩ := z4 (by have := hNL'.out; omega)
        injection z1 with z1 z9 z10
        subst z6
        subst z1
        subst z10
        have hfl := (hrow.out.lt fb rfl).1
        obtain ⟨q0, q1, q2, q3⟩ := (z5 k e hv).same (hoth.out.block fb z8 (by have := hsB.out; omega))
        rw [v1] at q0
        rw [v2] at q1
        rw [v3] at q2
        rw [v4] at q3
        obtain ⟨w5, hw5⟩ : ∃ w5, wr.alloc (.cells #[.int .i64 y.s, .string nbk, .string tbk, .slice Ak nk ck] 59) = w5 := ⟨_, rfl⟩
        have hb5 : Below wr.heap.size wr w5 := by rw [← hw5]; exact (Below.refl _ _).alloc (Nat.le_refl _) _
        have hk5 := Lib.hid (show w5.heap[wr.heap.size]? = some (elB y.s nbk tbk (.slice Ak nk ck)) by rw [← hw5]; exact heap_alloc_new wr _)
        have hb05 := Lib.hid (show Below w0.heap.size w0 w5 from hb0r.out.trans (hb5.mono hb0r.out.size))
        have ht5 := Lib.hid (blk_at htr.out hb5)
        have ho5 := Lib.hid (hown.out.kept hb5)
        have hot5 := Lib.hid (hoth.out.trans (Oth.of hsr hb5))
        have hs5 : w2.heap.size ≤ w5.heap.size := hot5.out.size
        have hEk' := Lib.hid hEk
        have hyn := Lib.hid (map_take hy)
        obtain ⟨x0, e0, _⟩ := sv_some (itemP y).href
        obtain ⟨x2, e2, _⟩ := sv_some (itemP y).tag
        obtain ⟨x3, e3, _⟩ := sv_some (itemP y).data
        have ee := Lib.hid (And.intro e0 (And.intro e2 e3))
        have hmn : ((es.take k).map itemP).length ≤ 1099511627776 := by
          have := hlen'.out
          rw [List.length_map, List.length_take]; omega
        have hmn' := Lib.hid hmn
        have hNLb : NL ≤ 1099511627776 := by have := hlen'.out; omega
        clear hv hy he hyy p1 p2 hEk hev v1 v2 v3 v4 z2 z3 z4 z5 z7 z9 hb5 e0 e2 e3 hmn htr hown hel
        go_upto_region 5 with fail
        clear q0 q1 q2 q3
        refine Rg.region_inv (by kernel_rfl) T5.sl (by decide) (by kernel_rfl) (T5.IT w5 w2.heap.size (Z + 2) (.slice rA rn rc) ((es.take k).map itemP) (itemP y) ⟨#[]⟩ x0 x2 x3 (.agg #[.int .i64 y.s, .string nbk, .string tbk, .slice Ak nk ck])) ?_ ?_ ?_
        · exact T5.N.start (Below.drew (Below.refl _ _)) hs5 (ho5.out.kept (Below.drew (Below.refl _ _))) ht5.out
        · exact ⟨T5.st0 rfl rfl rfl rfl, T5.st1 rfl rfl rfl (by show 36 ≤ 36; omega) (by decide), T5.st2 rfl rfl rfl _ rfl y.s nbk tbk Ak nk ck rfl hk5.out,
            T5.st3 rfl rfl rfl (by show 36 ≤ 36; omega) hs5 (by decide) y.s nbk tbk Ak nk ck rfl (fun W hW => itemOf_v hEk'.out W (hb05.out.trans (hW.mono hb05.out.size))),
            T5.st4 rfl rfl rfl (by show 36 ≤ 36; omega) hs5 (by decide) ee.out.1 ee.out.2.1 ee.out.2.2,
            T5.st5 rfl rfl rfl (by show 36 ≤ 36; omega) hs5 (by omega) (by decide) (by decide) ee.out.1 ee.out.2.1 ee.out.2.2 hmn'.out,
            T5.st6 rfl rfl rfl rfl, T5.st7 rfl rfl rfl (by show 36 ≤ 36; omega) (by omega) (by decide) (by decide), trivial⟩
        · rintro d u W ⟨g, rv, h⟩ hall
          have r1 := h.row
          have r2 := h.box
          rw [hall 5 (by decide)] at r1
          rw [hall 7 (by decide)] at r2
          have r3 := h.oth
          have t6 := Lib.hid r2
          have o6 := Lib.hid r1
          have h6 := Lib.hid r3
          clear h hall r1 r2 r3
          unfold Rg.puts T5.sl
          simp only [List.foldl_cons, List.foldl_nil, Act.put, List.setIfInBounds_toArray, List.set_cons_succ, List.set_cons_zero]
          go_wp2
          go_roundw
          case rel => exact ⟨k + 1, rv, by go_num, by omega, t6, Lib.hid (by rw [hyn.out]; exact o6.out), Lib.hid (hot5.out.trans h6.out)⟩
          case measure => simp [RowKit.intOf]; omega
      · have htk : es.take k = es := List.take_of_length_le (by have h1 := hP'.out.1; have h2 := hNL'.out; omega)
        rw [htk] at hown
        have hbe_wr := hb0r
        clear htk
        go_upto_region 7 with fail
        go_cut [6, 7] from 25 to 31 (fun sp sq wx => ∃ g, sp = .pointer (some ⟨g, 0, none⟩) ∧ sq = .bool b1 ∧ Hid (wr.heap.size ≤ g) ∧ Hid (wx.heap[g]? = some (elB x1.s nb1 tb1 (.slice A1 n1 c1))) ∧ Hid (Below wr.heap.size wr wx))
        case first =>
          rename_i J K' hJ hK'
          refine Rg.region_inv (by kernel_rfl) T7.sl (by decide) (by kernel_rfl) (T7.I wr x.s x1.s nb tb nb1 tb1 A A1 n c n1 c1 b1) ?_ ?_ ?_
          · exact T7.N.start (Below.drew (Below.refl _ _))
          · exact ⟨T7.st0 rfl rfl rfl _ rfl (fun W hW => blk_at hpr.out hW), T7.st1 rfl rfl rfl, T7.stB rfl rfl rfl (by show 36 ≤ 36; omega) (by decide), T7.stC rfl rfl rfl (by show 36 ≤ 36; omega) (by decide) (by decide) (fun W v hW hn => cO1.out W v (hbe_wr.out.trans (hW.mono hbe_wr.out.size)) hn), T7.stM rfl rfl rfl (by show 36 ≤ 36; omega) (by decide), T7.stX rfl rfl rfl (by show 36 ≤ 36; omega) (by decide), T7.stY rfl rfl rfl (by show 36 ≤ 36; omega) (by decide), T7.stP rfl rfl rfl, T7.stS rfl rfl rfl (by show 36 ≤ 36; omega) (by decide) (by decide), T7.stQ rfl rfl rfl (by show 36 ≤ 36; omega) (by decide), trivial⟩
          · rintro d u W ⟨g, h⟩ hall
            obtain ⟨r1, r2, r3⟩ := h.fP (hall 7 (by decide))
            rw [hall 8 (by decide)] at r3
            have r4 := h.fQ (hall 9 (by decide))
            have r5 := h.bel
            clear h hall
            show K' _ _
            refine hK' _ _ (Met.intro (hJ _ _ ?_))
            unfold Rg.puts T7.sl
            simp only [List.foldl_cons, List.foldl_nil, Act.put, List.setIfInBounds_toArray, List.set_cons_succ, List.set_cons_zero]
            repeat apply Exists.intro
            refine ⟨?relT7, rfl⟩
            exact ⟨g, r1, r4, Lib.hid r2, Lib.hid r3, Lib.hid r5⟩
        case rest =>
          obtain ⟨g1, rfl, rfl, hg1, hx1, hbc⟩ := hcut
          obtain ⟨w7, rfl⟩ : ∃ q, q = wc := ⟨_, rfl⟩
          obtain ⟨_, _, k2, _, _, _, _, _, kz⟩ := cellsE hx1.out
          have ht7 := blk_at htr.out hbc.out
          have hr7 := blk_at hrr.out hbc.out
          have ho7 := hown.out.kept hbc.out
          have hb7 : Below Z w w7 := by
            have h1 : Below Z w wr := ⟨hoth.out.os.trans hb2w.out.os, hoth.out.tape.trans hb2w.out.tape, hoth.out.output.trans hb2w.out.output, Nat.le_trans hb2w.out.size hsr, fun j hj => (hoth.out.block j (by omega) (by omega)).trans (hb2w.out.block j hj)⟩
            exact h1.trans (hbc.out.mono (by omega))
          obtain ⟨t0, t1, tf0, tf1, tz⟩ := toldC ht7
          obtain ⟨ws, hws⟩ : ∃ ws, w7.setCell ⟨Z + 2, 1, none⟩ (.string tb1) = ws := ⟨_, rfl⟩
          have hts : ws.heap[Z + 2]? = some (tdB (.slice rA rn rc) tb1) := by rw [← hws]; simp [World.setCell, Array.getElem?_modify, ht7, tdB]
          have hrs : ws.heap[Z + 1]? = some (tdB (.slice none 0 0) ⟨#[]⟩) := by rw [← hws, Below.heap_setCell _ _ _ _ (by show Z + 1 ≠ Z + 2; omega)]; exact hr7
          obtain ⟨s0, s1, _, _, _⟩ := toldC hts
          obtain ⟨r0, r1, rf0, rf1, rz⟩ := toldC hrs
          obtain ⟨wf, hwf⟩ : ∃ wf, (ws.setCell ⟨Z + 1, 0, none⟩ (.slice rA rn rc)).setCell ⟨Z + 1, 1, none⟩ (.string tb1) = wf := ⟨_, rfl⟩
          have hfc : wf.heap[Z + 1]? = some (tdB (.slice rA rn rc) tb1) := by rw [← hwf]; simp [World.setCell, Array.getElem?_modify, hrs, tdB]
          obtain ⟨y0, y1, _, _, _⟩ := toldC hfc
          have hfin := Lib.hid (show (IsOwn Z (.slice rA rn rc) R.items wf ∧ tb1.data.toList = R.token) ∧ Below Z w wf by
            constructor
            · rw [← hR'.out]
              refine ⟨?_, tx1.out⟩
              refine Xm.ownsRow_less (B := w2.heap.size) ?_ (by omega)
              refine ⟨ho7.1, ?_⟩
              rcases ho7.2 with q | ⟨g', cap, cur, p1, p2, p3, p4⟩
              · exact .inl q
              · exact .inr ⟨g', cap, cur, p1, p2, by rw [← hwf, Below.heap_setCell _ _ _ _ (by show g' ≠ Z + 1; omega), Below.heap_setCell _ _ _ _ (by show g' ≠ Z + 1; omega), ← hws, Below.heap_setCell _ _ _ _ (by show g' ≠ Z + 2; omega)]; exact p3, p4⟩
            · rw [← hwf, ← hws]
              exact ((hb7.setCell (p := ⟨Z + 2, 1, none⟩) (by show Z ≤ Z + 2; omega) _).setCell (p := ⟨Z + 1, 0, none⟩) (by show Z ≤ Z + 1; omega) _).setCell (p := ⟨Z + 1, 1, none⟩) (by show Z ≤ Z + 1; omega) _)
          clear ht7 hr7 ho7 hb7 hts hrs hfc hbc
          go_wp2
          exact bodyPost_ret (v := .agg #[.slice rA rn rc, .string tb1]) (by simp [results, Tryz.results34, go_sem, y0, y1]) rfl ⟨⟨_, _, rfl, by rw [hZ'.out]; exact hfin.out.1.1, hfin.out.1.2⟩, by rw [hZ'.out]; exact hfin.out.2⟩
end Go.Proofs.YtmmpojhjpghdlaaGreatDoor.Dv
