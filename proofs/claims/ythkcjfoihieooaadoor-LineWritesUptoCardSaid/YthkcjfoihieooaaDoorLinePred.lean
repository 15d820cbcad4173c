/-
  WALKS OF slices.IndexFunc, ContainsFunc AT []string AND []api.Param, at whatever predicate that leaves what there is; the closures of line.check.
-/
import Derived.Test.YthkcjfoihieooaaDoorLineCut
import Derived.Test.YthkcjfoihieooaaDoorLineMem
import Derived.Shelf.GgClosure.Gives
set_option linter.unusedVariables false
namespace Go.Proofs.YthkcjfoihieooaaDoor.Li
open Go.Lib Go.RowKit Bu

/-- a function value that tells q of the strings of a list -/
def PredS (g : Nat) (lb : Array Value) (q : Row → Bool) (vs : List Row) (w : World) : Prop :=
  ∀ (W : World) (v : Row), v ∈ vs → Below w.heap.size w W → Calls Tryd.prog g (#[sv v] ++ lb) W fun e w' => e = .returned (.bool (q v)) ∧ Below W.heap.size W w'
/-- .. of parameters -/
def PredP (g : Nat) (lb : Array Value) (q : PD → Bool) (ps : List PD) (w : World) : Prop :=
  ∀ (W : World) (p : PD) (u : Value), p ∈ ps → StrsAt W u p.vals → Below w.heap.size w W → Calls Tryd.prog g (#[.agg #[sv p.name, u]] ++ lb) W fun e w' => e = .returned (.bool (q p)) ∧ Below W.heap.size W w'
def FoundP {α : Type} (q : α → Bool) (xs : List α) (e : Ending) : Prop := ∃ i : Int, e = .returned (.int .i64 i) ∧ xs.any q = decide (0 ≤ i)
theorem any_none {α : Type} {q : α → Bool} {xs : List α} (h : ∀ x ∈ xs, q x = false) : xs.any q = false := by
  rw [List.any_eq_false]
  intro x hx
  rw [h x hx]; decide
theorem any_some {α : Type} {q : α → Bool} {xs : List α} {k : Nat} {x : α} (h : xs[k]? = some x) (hx : q x = true) : xs.any q = true := by
  rw [List.any_eq_true]
  exact ⟨x, List.mem_of_getElem? h, hx⟩
theorem mem_take_succ {α : Type} {q : α → Bool} {xs : List α} {k : Nat} {x : α} (h : xs[k]? = some x) (hall : ∀ y ∈ xs.take k, q y = false) (hx : q x = false) : ∀ y ∈ xs.take (k + 1), q y = false := by
  obtain ⟨hl, hv⟩ := List.getElem?_eq_some_iff.1 h
  intro y hy
  rw [List.take_succ_eq_append_getElem hl, List.mem_append, List.mem_singleton, hv] at hy
  rcases hy with hy | rfl
  · exact hall y hy
  · exact hx

set_option maxHeartbeats 4000000 in
set_option maxRecDepth 100000 in
theorem indexFuncS (g : Nat) (lb : Array Value) (q : Row → Bool) (vs : List Row) (vv : Value) (w : World) (eg : ∀ args w, (callFunc g args).run Tryd.prog w = .ok (.enter g args) w) (hs : StrsAt w vv vs) (hp : PredS g lb q vs w) :
    Calls Tryd.prog 63 #[vv, .func (.func g) #[] lb] w fun e w' => FoundP q vs e ∧ Below w.heap.size w w' := by
  obtain ⟨A, b, o, c, rfl, h1, h2, h3, h4⟩ := hs
  obtain ⟨n, hn⟩ : ∃ n, vs.length = n := ⟨_, rfl⟩
  rw [hn] at h1 h3 ⊢
  have hn' := Lib.hid hn
  have h3' := Lib.hid h3
  have h4' := Lib.hid h4
  have hp' := Lib.hid hp
  unfold maxLen at h2
  clear hn h3 h4 hp
  go_enter Tryd.func63, Tryd.ntmps63
  go_wp2
  go_loopw [8] (fun s8 wr => ∃ k : Nat, s8 = .int .i64 (k : Int) ∧ k ≤ n ∧ Below w.heap.size w wr ∧ ∀ y ∈ vs.take k, q y = false) (fun s8 wr => n - (RowKit.intOf s8).toNat)
  case atStart => exact ⟨0, rfl, Nat.zero_le _, Below.refl _ _, fun y hy => by simp at hy⟩
  case round =>
    obtain ⟨k, rfl, hk, hbw, hall⟩ := hrel
    have hall' := Lib.hid hall
    clear hall
    by_cases hlt : k < n
    · have hv : vs[k]? = some (vs[k]'(by have := hn'.out; omega)) := List.getElem?_eq_getElem _
      obtain ⟨V, hV⟩ : ∃ V, vs[k]'(by have := hn'.out; omega) = V := ⟨_, rfl⟩
      rw [hV] at hv
      have hVm : V ∈ vs := by rw [← hV]; exact List.getElem_mem _
      obtain ⟨rfl, hg⟩ := h3'.out (by omega)
      have hc := h4'.out k V hv
      rw [← hbw.cell (p := ⟨b, o + k, none⟩) hg] at hc
      have hcall := hp'.out wr V hVm hbw
      unfold sv at hc hcall
      generalize (⟨V.toArray⟩ : ByteArray) = x at hc hcall
      have hv' := Lib.hid hv
      clear hv hV hVm
      cases hq : q V
      · rw [hq] at hcall
        have hnx := Lib.hid (mem_take_succ hv'.out hall'.out hq)
        clear hq
        go_wp2_with (go_at_fn g; refine hcall.mono ?_; rintro e w3 ⟨rfl, hb3⟩)
        go_roundw
        case rel => exact ⟨k + 1, by go_num, by omega, hbw.trans (hb3.mono hbw.size), hnx.out⟩
        case measure => simp [RowKit.intOf]; omega
      · rw [hq] at hcall
        have hf : FoundP q vs (.returned (.int .i64 (k : Int))) := ⟨k, rfl, by rw [any_some hv'.out hq, decide_eq_true (by omega)]⟩
        have hf' := Lib.hid hf
        clear hq hf
        go_wp2_with (go_at_fn g; refine hcall.mono ?_; rintro e w3 ⟨rfl, hb3⟩)
        go_ret
        exact ⟨hf'.out, hbw.trans (hb3.mono hbw.size)⟩
    · have hf : FoundP q vs (.returned (.int .i64 (-1))) := ⟨-1, rfl, by
        have := hall'.out
        rw [List.take_of_length_le (by have := hn'.out; omega)] at this
        rw [any_none this]; rfl⟩
      have hf' := Lib.hid hf
      clear hf
      go_wp2
      go_ret
      exact ⟨hf'.out, hbw⟩

set_option maxHeartbeats 4000000 in
set_option maxRecDepth 100000 in
theorem containsFuncS (g : Nat) (lb : Array Value) (q : Row → Bool) (vs : List Row) (vv : Value) (w : World) (eg : ∀ args w, (callFunc g args).run Tryd.prog w = .ok (.enter g args) w) (hs : StrsAt w vv vs) (hp : PredS g lb q vs w) :
    Calls Tryd.prog 54 #[vv, .func (.func g) #[] lb] w fun e w' => e = .returned (.bool (vs.any q)) ∧ Below w.heap.size w w' := by
  have cI := indexFuncS g lb q vs vv w eg hs hp
  unfold FoundP at cI
  generalize vs.any q = R at cI ⊢
  clear hs hp
  go_enter Tryd.func54, Tryd.ntmps54
  go_wp2_with (go_at_call 63; refine cI.mono ?_; rintro e w' ⟨⟨i, rfl, hi⟩, hb⟩; subst hi)
  go_ret
  exact ⟨rfl, hb⟩

set_option maxHeartbeats 4000000 in
set_option maxRecDepth 100000 in
theorem indexFuncP (g : Nat) (lb : Array Value) (q : PD → Bool) (ps : List PD) (vv : Value) (w : World) (eg : ∀ args w, (callFunc g args).run Tryd.prog w = .ok (.enter g args) w) (hs : PrmsAt w vv ps) (hp : PredP g lb q ps w) :
    Calls Tryd.prog 64 #[vv, .func (.func g) #[] lb] w fun e w' => FoundP q ps e ∧ Below w.heap.size w w' := by
  obtain ⟨A, b, o, c, rfl, h1, h2, h3, h4⟩ := hs
  obtain ⟨n, hn⟩ : ∃ n, ps.length = n := ⟨_, rfl⟩
  rw [hn] at h1 h3 ⊢
  have hn' := Lib.hid hn
  have h3' := Lib.hid h3
  have h4' := Lib.hid h4
  have hp' := Lib.hid hp
  unfold maxLen at h2
  clear hn h3 h4 hp
  go_enter Tryd.func64, Tryd.ntmps64
  go_wp2
  go_loopw [8] (fun s8 wr => ∃ k : Nat, s8 = .int .i64 (k : Int) ∧ k ≤ n ∧ Below w.heap.size w wr ∧ ∀ y ∈ ps.take k, q y = false) (fun s8 wr => n - (RowKit.intOf s8).toNat)
  case atStart => exact ⟨0, rfl, Nat.zero_le _, Below.refl _ _, fun y hy => by simp at hy⟩
  case round =>
    obtain ⟨k, rfl, hk, hbw, hall⟩ := hrel
    have hall' := Lib.hid hall
    clear hall
    by_cases hlt : k < n
    · have hv : ps[k]? = some (ps[k]'(by have := hn'.out; omega)) := List.getElem?_eq_getElem _
      obtain ⟨V, hV⟩ : ∃ V, ps[k]'(by have := hn'.out; omega) = V := ⟨_, rfl⟩
      rw [hV] at hv
      have hVm : V ∈ ps := by rw [← hV]; exact List.getElem_mem _
      obtain ⟨rfl, hg⟩ := h3'.out (by omega)
      obtain ⟨hc, u, hu, hsu⟩ := h4'.out k V hv
      rw [← hbw.cell (p := ⟨b, o + k * 2, none⟩) hg] at hc
      rw [← hbw.cell (p := ⟨b, o + k * 2 + 1, none⟩) hg] at hu
      have hcall := hp'.out wr V u hVm (hsu.kept hbw) hbw
      unfold sv at hc hcall
      generalize (⟨V.name.toArray⟩ : ByteArray) = x at hc hcall
      have hv' := Lib.hid hv
      clear hv hV hVm hsu
      cases hq : q V
      · rw [hq] at hcall
        have hnx := Lib.hid (mem_take_succ hv'.out hall'.out hq)
        clear hq
        go_wp2_with (go_at_fn g; refine hcall.mono ?_; rintro e w3 ⟨rfl, hb3⟩)
        go_roundw
        case rel => exact ⟨k + 1, by go_num, by omega, hbw.trans (hb3.mono hbw.size), hnx.out⟩
        case measure => simp [RowKit.intOf]; omega
      · rw [hq] at hcall
        have hf : FoundP q ps (.returned (.int .i64 (k : Int))) := ⟨k, rfl, by rw [any_some hv'.out hq, decide_eq_true (by omega)]⟩
        have hf' := Lib.hid hf
        clear hq hf
        go_wp2_with (go_at_fn g; refine hcall.mono ?_; rintro e w3 ⟨rfl, hb3⟩)
        go_ret
        exact ⟨hf'.out, hbw.trans (hb3.mono hbw.size)⟩
    · have hf : FoundP q ps (.returned (.int .i64 (-1))) := ⟨-1, rfl, by
        have := hall'.out
        rw [List.take_of_length_le (by have := hn'.out; omega)] at this
        rw [any_none this]; rfl⟩
      have hf' := Lib.hid hf
      clear hf
      go_wp2
      go_ret
      exact ⟨hf'.out, hbw⟩

set_option maxHeartbeats 4000000 in
set_option maxRecDepth 100000 in
theorem containsFuncP (g : Nat) (lb : Array Value) (q : PD → Bool) (ps : List PD) (vv : Value) (w : World) (eg : ∀ args w, (callFunc g args).run Tryd.prog w = .ok (.enter g args) w) (hs : PrmsAt w vv ps) (hp : PredP g lb q ps w) :
    Calls Tryd.prog 55 #[vv, .func (.func g) #[] lb] w fun e w' => e = .returned (.bool (ps.any q)) ∧ Below w.heap.size w w' := by
  have cI := indexFuncP g lb q ps vv w eg hs hp
  unfold FoundP at cI
  generalize ps.any q = R at cI ⊢
  clear hs hp
  go_enter Tryd.func55, Tryd.ntmps55
  go_wp2_with (go_at_call 64; refine cI.mono ?_; rintro e w' ⟨⟨i, rfl, hi⟩, hb⟩; subst hi)
  go_ret
  exact ⟨rfl, hb⟩

/-! ### the closures of check -/
def Small (ps : List PD) : Prop := ∀ p ∈ ps, p.name.length ≤ 9223372036854775807 ∧ ∀ v ∈ p.vals, v.length ≤ 9223372036854775807

set_option maxHeartbeats 2000000 in
set_option maxRecDepth 100000 in
theorem unnamed_is (ps : List PD) (hs : Small ps) (w : World) : PredP 50 #[] (fun p => !nameB p.name) ps w := fun W p u hp hu hb => by
  have hl := (hs p hp).1
  obtain ⟨x, hx⟩ : ∃ x : ByteArray, (⟨p.name.toArray⟩ : ByteArray) = x := ⟨_, rfl⟩
  have hxd : x.data.toList = p.name := by rw [← hx]
  have cN := fun W => name_any x W (by rw [Lib.size_eq, hxd]; exact hl)
  rw [hxd] at cN
  unfold sv
  rw [hx]
  obtain ⟨A, b, o, c, rfl, _⟩ := hu
  dsimp only
  generalize nameB p.name = R at cN ⊢
  have hal : Below W.heap.size W (W.alloc (.cells #[.string x, .slice A p.vals.length c] 40)) := (Below.refl _ _).alloc (Nat.le_refl _) _
  clear hl hx hxd hb
  go_enter Tryd.func50, Tryd.ntmps50
  go_wp2_with (go_at_call 12; refine (cN _).mono ?_; rintro e w1 ⟨rfl, hb1⟩)
  go_ret
  exact ⟨rfl, below_then hal hb1⟩

set_option maxHeartbeats 2000000 in
set_option maxRecDepth 100000 in
theorem unvalued_is (ps : List PD) (w : World) : PredP 51 #[] (fun p => p.vals.isEmpty) ps w := fun W p u hp hu hb => by
  obtain ⟨A, b, o, c, rfl, _⟩ := hu
  unfold sv
  generalize (⟨p.name.toArray⟩ : ByteArray) = x
  have hal : Below W.heap.size W (W.alloc (.cells #[.string x, .slice A p.vals.length c] 40)) := (Below.refl _ _).alloc (Nat.le_refl _) _
  have hE : p.vals.isEmpty = ((p.vals.length : Int) == 0) := by
    cases p.vals with
    | nil => rfl
    | cons v vs => simp; omega
  dsimp only
  rw [hE]
  clear hE
  generalize p.vals.length = n at hal ⊢
  go_enter Tryd.func51, Tryd.ntmps51
  go_wp2
  go_ret
  exact ⟨rfl, hal⟩

set_option maxHeartbeats 2000000 in
set_option maxRecDepth 100000 in
theorem odd_is (vs : List Row) (hs : ∀ v ∈ vs, v.length ≤ 9223372036854775807) (w : World) (hT : Ch.Tabs w) : PredS 52 #[] (fun v => !okV v) vs w := fun W v hv hb => by
  have hl := hs v hv
  obtain ⟨x, hx⟩ : ∃ x : ByteArray, (⟨v.toArray⟩ : ByteArray) = x := ⟨_, rfl⟩
  have hxd : x.data.toList = v := by rw [← hx]
  have cV := plainV_any x W (Ch.tabs_below hT hb) (by rw [Lib.size_eq, hxd]; exact hl)
  rw [hxd] at cV
  unfold sv
  rw [hx]
  dsimp only
  generalize okV v = R at cV ⊢
  clear hl hx hxd hb hT
  go_enter Tryd.func52, Tryd.ntmps52
  go_wp2_with (go_at_call 21; refine cV.mono ?_; rintro e w1 ⟨rfl, hb1⟩)
  go_ret
  exact ⟨rfl, hb1⟩

set_option maxHeartbeats 2000000 in
set_option maxRecDepth 100000 in
theorem oddly_is (ps : List PD) (hs : Small ps) (g : Nat) (w : World) (hg : g < w.heap.size) (hc : w.cell? ⟨g, 0, none⟩ = some (.func (.func 52) #[] #[])) (hT : Ch.Tabs w) : PredP 53 #[.pointer (some ⟨g, 0, none⟩)] (fun p => p.vals.any fun v => !okV v) ps w := fun W p u hp hu hb => by
  have hal : ∀ x, Below W.heap.size W (W.alloc (.cells #[x, u] 40)) := fun x => (Below.refl _ _).alloc (Nat.le_refl _) _
  have cC := fun x => containsFuncS 52 #[] (fun v => !okV v) p.vals u (W.alloc (.cells #[x, u] 40)) (enters_of Tryd.func52 (by kernel_rfl) rfl) (hu.kept (hal x)) (odd_is _ (hs p hp).2 _ (Ch.tabs_below (Ch.tabs_below hT hb) (hal x)))
  rw [← hb.cell (p := ⟨g, 0, none⟩) hg] at hc
  have hgW : g < W.heap.size := Nat.lt_of_lt_of_le hg hb.size
  obtain ⟨A, b, o, c, rfl, _⟩ := hu
  unfold sv
  generalize (⟨p.name.toArray⟩ : ByteArray) = x
  have cX := cC (.string x)
  have halx := hal (.string x)
  dsimp only at cX ⊢
  generalize (p.vals.any fun v => !okV v) = R at cX ⊢
  generalize p.vals.length = n at cX halx ⊢
  clear cC hal hT hb hs hp hg
  go_enter Tryd.func53, Tryd.ntmps53
  go_wp2_with (go_at_call 54; refine cX.mono ?_; rintro e w1 ⟨rfl, hb1⟩)
  go_ret
  exact ⟨rfl, below_then halx hb1⟩
end Go.Proofs.YthkcjfoihieooaaDoor.Li
