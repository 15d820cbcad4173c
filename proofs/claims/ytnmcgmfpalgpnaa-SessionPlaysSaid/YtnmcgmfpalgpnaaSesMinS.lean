/-
  slices.MinFunc AND DeleteFunc AT ROWS WHOSE RESULT IS OF TYPE string; THE PROGRAM's forget.
-/
import Derived.Test.YtnmcgmfpalgpnaaSesDoneS
import Derived.Test.YtnmcgmfpalgpnaaSesRefOpen
set_option linter.unusedVariables false
namespace Go.Proofs.Ytnmcgmfpalgpnaa.Se
open Go.Lib Go.RowKit

theorem nan_i (z : Int) (w : World) : Calls Try.prog 48 #[.int .i64 z] w fun e w' => e = .returned (.bool false) ∧ w' = w := by
  have h : (z != z) = false := by simp
  go_enter Try.func48, Try.ntmps48
  go_wp2
  go_ret
  exact ⟨rfl, rfl⟩
def cmpI (x y : Int) : Int := if x < y then -1 else if y < x then 1 else 0
theorem cmp_i (x y : Int) (w : World) : Calls Try.prog 38 #[.int .i64 x, .int .i64 y] w fun e w' => e = .returned (.int .i64 (cmpI x y)) ∧ w' = w := by
  have hc1 : x < y → cmpI x y = -1 := fun h => if_pos h
  have hc2 : ¬ x < y → y < x → cmpI x y = 1 := fun h h2 => (if_neg h).trans (if_pos h2)
  have hc3 : ¬ x < y → ¬ y < x → cmpI x y = 0 := fun h h2 => (if_neg h).trans (if_neg h2)
  generalize cmpI x y = R at hc1 hc2 hc3 ⊢
  by_cases h1 : x < y
  · obtain rfl := hc1 h1
    have d1 : decide (x < y) = true := by simpa using h1
    clear hc1 hc2 hc3
    go_enter Try.func38, Try.ntmps38
    go_wp2_with (go_at_call 48; refine (nan_i _ _).mono ?_; rintro e w' ⟨rfl, rfl⟩)
    go_ret
    exact ⟨rfl, rfl⟩
  · have d1 : decide (x < y) = false := by simpa using h1
    by_cases h2 : y < x
    · obtain rfl := hc2 h1 h2
      have d2 : decide (y < x) = true := by simpa using h2
      clear hc1 hc2 hc3
      go_enter Try.func38, Try.ntmps38
      go_wp2_with (go_at_call 48; refine (nan_i _ _).mono ?_; rintro e w' ⟨rfl, rfl⟩)
      go_ret
      exact ⟨rfl, rfl⟩
    · obtain rfl := hc3 h1 h2
      have d2 : decide (y < x) = false := by simpa using h2
      clear hc1 hc2 hc3
      go_enter Try.func38, Try.ntmps38
      go_wp2_with (go_at_call 48; refine (nan_i _ _).mono ?_; rintro e w' ⟨rfl, rfl⟩)
      go_ret
      exact ⟨rfl, rfl⟩
theorem cmpI_less (x y : Int) : decide (cmpI x y < 0) = decide (x < y) := by
  unfold cmpI
  by_cases h1 : x < y
  · rw [if_pos h1, decide_eq_true h1]; rfl
  · rw [if_neg h1, decide_eq_false h1]
    by_cases h2 : y < x
    · rw [if_pos h2]; rfl
    · rw [if_neg h2]; rfl
set_option maxHeartbeats 2000000 in
set_option maxRecDepth 100000 in
theorem usedFnS (r s : Ro ByteArray) (W : World) : Calls Try.prog 37 #[.agg #[.int .i64 r.id, .int .i64 r.last, .int .i64 r.used, .string r.x], .agg #[.int .i64 s.id, .int .i64 s.last, .int .i64 s.used, .string s.x]] W fun e w' => e = .returned (.int .i64 (cmpI r.used s.used)) ∧ Below W.heap.size W w' := by
  obtain ⟨rid, rl, ru, rx⟩ := r
  obtain ⟨sid, sl, su, sx⟩ := s
  simp only
  have cC := fun W => cmp_i ru su W
  have h1 : Below W.heap.size W (W.alloc (.cells #[.int .i64 rid, .int .i64 rl, .int .i64 ru, .string rx] 42)) := (Below.refl _ _).alloc (Nat.le_refl _) _
  have h2 := h1.alloc h1.size (.cells #[.int .i64 sid, .int .i64 sl, .int .i64 su, .string sx] 42)
  have k0 : ((W.alloc (.cells #[.int .i64 rid, .int .i64 rl, .int .i64 ru, .string rx] 42)).alloc (.cells #[.int .i64 sid, .int .i64 sl, .int .i64 su, .string sx] 42)).cell? ⟨W.heap.size, 2, none⟩ = some (.int .i64 ru) := by
    refine Lib.cell?_alloc_some _ ?_
    rw [Lib.cell_of_heap (heap_alloc_new W _)]; rfl
  have h2' := Lib.hid h2
  generalize cmpI ru su = R at cC ⊢
  have cC' := Lib.hid cC
  clear h1 h2 cC
  go_enter Try.func37, Try.ntmps37
  go_wp2_with (go_at_call 38; refine (cC'.out _).mono ?_; rintro e w' ⟨rfl, rfl⟩)
  go_ret
  exact ⟨rfl, h2'.out⟩

theorem set_heap {W : World} {g : Nat} {cs : Array Value} {t : TypeId} (h : W.heap[g]? = some (.cells cs t (0, 0))) (j : Nat) (v : Value) : (W.setCell ⟨g, j, none⟩ v).heap[g]? = some (.cells (cs.setIfInBounds j v) t (0, 0)) := by
  simp [World.setCell, Array.getElem?_modify, h]
abbrev put4 (W : World) (g : Nat) (v0 v1 v2 v3 : Value) : World := (((W.setCell ⟨g, 0, none⟩ v0).setCell ⟨g, 1, none⟩ v1).setCell ⟨g, 2, none⟩ v2).setCell ⟨g, 3, none⟩ v3
theorem put4_heap {W : World} {g : Nat} {a0 a1 a2 a3 : Value} {t : TypeId} (h : W.heap[g]? = some (.cells #[a0, a1, a2, a3] t (0, 0))) (v0 v1 v2 v3 : Value) : (put4 W g v0 v1 v2 v3).heap[g]? = some (.cells #[v0, v1, v2, v3] t (0, 0)) := by
  have h0 := set_heap h 0 v0
  have h1 := set_heap h0 1 v1
  have h2 := set_heap h1 2 v2
  exact set_heap h2 3 v3
theorem put4_block (W : World) (g : Nat) (v0 v1 v2 v3 : Value) {k : Nat} (hk : k ≠ g) : (put4 W g v0 v1 v2 v3).heap[k]? = W.heap[k]? := by
  unfold put4
  rw [Below.heap_setCell _ _ _ k hk, Below.heap_setCell _ _ _ k hk, Below.heap_setCell _ _ _ k hk, Below.heap_setCell _ _ _ k hk]
theorem below_put4 {B : Nat} {a W : World} (h : Below B a W) {g : Nat} (hg : B ≤ g) (v0 v1 v2 v3 : Value) : Below B a (put4 W g v0 v1 v2 v3) :=
  (((h.setCell (p := ⟨g, 0, none⟩) hg _).setCell (p := ⟨g, 1, none⟩) hg _).setCell (p := ⟨g, 2, none⟩) hg _).setCell (p := ⟨g, 3, none⟩) hg _
theorem cells4 {W : World} {b : Nat} {x0 x1 x2 x3 : Value} {t : TypeId} (hk : W.heap[b]? = some (.cells #[x0, x1, x2, x3] t (0, 0))) :
    W.cell? ⟨b, 0, none⟩ = some x0 ∧ W.cell? ⟨b, 1, none⟩ = some x1 ∧ W.cell? ⟨b, 2, none⟩ = some x2 ∧ W.cell? ⟨b, 3, none⟩ = some x3 ∧ W.frozen? ⟨b, 0, none⟩ = false ∧ W.frozen? ⟨b, 1, none⟩ = false ∧ W.frozen? ⟨b, 2, none⟩ = false ∧ W.frozen? ⟨b, 3, none⟩ = false :=
  ⟨Lib.cell_of_heap hk 0, Lib.cell_of_heap hk 1, Lib.cell_of_heap hk 2, Lib.cell_of_heap hk 3, Lib.frozen_of_heap hk 0, Lib.frozen_of_heap hk 1, Lib.frozen_of_heap hk 2, Lib.frozen_of_heap hk 3⟩
theorem ro_retS {fn : Func} {p : Tmp} (h : fn.results = #[.cell p 42]) (tmps : Array Value) (W : World) (g : Nat) (i l u : Int) (x : ByteArray) (hp : tmps.getD p undef = .pointer (some ⟨g, 0, none⟩))
    (hg : W.heap[g]? = some (.cells #[.int .i64 i, .int .i64 l, .int .i64 u, .string x] 42 (0, 0))) : (results fn tmps).run Try.prog W = .ok (.agg #[.int .i64 i, .int .i64 l, .int .i64 u, .string x]) W :=
  results_cell_row h tmps W g _ _ _ _ hp hg Try.underlying42 rfl (by kernel_rfl)
/-- what stands in MinFunc's loop: the least so far in block x5 -/
structure MinWS (t : Tb ByteArray) (x4 x5 i k : Nat) (r : Ro ByteArray) (w wr : World) : Prop where
  at_ : t[k]? = some r
  lt : k < i
  min : MinAt t k i
  below : Below w.heap.size w wr
  res : wr.heap[x4]? = some (.cells #[.int .i64 0, .int .i64 0, .int .i64 0, .string ⟨#[]⟩] 42 (0, 0))
  cur : wr.heap[x5]? = some (.cells #[.int .i64 r.id, .int .i64 r.last, .int .i64 r.used, .string r.x] 42 (0, 0))

set_option maxHeartbeats 8000000 in
set_option maxRecDepth 100000 in
theorem minS (t : Tb ByteArray) (v : Value) (w : World) (hv : RsAt eS w v t) (hl : t.length ≤ 8) (h0 : 0 < t.length) :
    Calls Try.prog 36 #[v, .func (.func 37) #[] #[]] w fun e w' => (∃ (k : Nat) (r : Ro ByteArray), e = .returned (.agg #[.int .i64 r.id, .int .i64 r.last, .int .i64 r.used, .string r.x]) ∧ t[k]? = some r ∧ MinAt t k t.length) ∧ Below w.heap.size w w' := by
  have eg : ∀ args w, (callFunc 37 args).run Try.prog w = .ok (.enter 37 args) w := fun _ _ => rfl
  obtain ⟨A, b, off, c, rfl, h1, h2, h3, h4⟩ := hv
  obtain ⟨rfl, hg⟩ := h3 h0
  obtain ⟨n, hn⟩ : ∃ n, t.length = n := ⟨_, rfl⟩
  rw [hn] at hl h0 h1 ⊢
  have hcells : ∀ W, Below w.heap.size w W → ∀ (j : Nat) (r : Ro ByteArray), t[j]? = some r → RoCells eS W b (off + j * 4) r := fun W hW j r hr => (h4 j r hr).kept eS hg hW
  obtain ⟨r0, hr0⟩ : ∃ r, t[0]? = some r := ⟨_, List.getElem?_eq_getElem (by omega)⟩
  have hb1 : Below w.heap.size w (w.alloc (.cells #[.int .i64 0, .int .i64 0, .int .i64 0, .string ⟨#[]⟩] 42)) := (Below.refl _ _).alloc (Nat.le_refl _) _
  obtain ⟨y0, y1, y2, y3⟩ := hcells _ hb1 0 r0 hr0
  rw [Nat.zero_mul, Nat.add_zero] at y0 y1 y2 y3
  have hst : MinWS t w.heap.size (w.heap.size + 1) 1 0 r0 w ((w.alloc (.cells #[.int .i64 0, .int .i64 0, .int .i64 0, .string ⟨#[]⟩] 42)).alloc (.cells #[.int .i64 r0.id, .int .i64 r0.last, .int .i64 r0.used, .string r0.x] 42)) := by
    refine ⟨hr0, Nat.zero_lt_one, min_new hr0 rfl, hb1.alloc hb1.size _, ?_, ?_⟩
    · have hb2 : Below (w.heap.size + 1) (w.alloc (.cells #[.int .i64 0, .int .i64 0, .int .i64 0, .string ⟨#[]⟩] 42)) ((w.alloc (.cells #[.int .i64 0, .int .i64 0, .int .i64 0, .string ⟨#[]⟩] 42)).alloc (.cells #[.int .i64 r0.id, .int .i64 r0.last, .int .i64 r0.used, .string r0.x] 42)) := (Below.refl _ _).alloc (by simp) _
      rw [hb2.block w.heap.size (Nat.lt_succ_self _)]
      exact heap_alloc_new _ _
    · have := heap_alloc_new (w.alloc (.cells #[.int .i64 0, .int .i64 0, .int .i64 0, .string ⟨#[]⟩] 42)) (.cells #[.int .i64 r0.id, .int .i64 r0.last, .int .i64 r0.used, .string r0.x] 42)
      simpa using this
  obtain ⟨i0, l0, u0, x0⟩ := r0
  simp only at y0 y1 y2 y3 hst
  have hcells' := Lib.hid hcells
  have hn' := Lib.hid hn
  have hst' := Lib.hid hst
  clear hcells hn hst hr0 hb1 h4 hg h3
  unfold maxLen at h2
  go_enter Try.func36, Try.ntmps36
  go_wp2
  go_loopw [6] (fun s6 wr => ∃ (i k : Nat) (r : Ro ByteArray), s6 = .int .i64 (i : Int) ∧ i ≤ n ∧ 1 ≤ i ∧ MinWS t w.heap.size (w.heap.size + 1) i k r w wr) (fun s6 wr => n - (RowKit.intOf s6).toNat)
  case atStart => exact ⟨1, 0, _, rfl, h0, Nat.le_refl _, hst'.out⟩
  case round =>
    obtain ⟨i, k, r, rfl, hi, hi1, hM⟩ := hrel
    have hM' := Lib.hid hM
    by_cases hlt : i < n
    · obtain ⟨y, hy⟩ : ∃ y, t[i]? = some y := ⟨_, List.getElem?_eq_getElem (by rw [hn'.out]; exact hlt)⟩
      have hS : ∀ W, Below wr.heap.size wr W → Below wr.heap.size wr W ∧ W.cell? ⟨b, off + i * 4, none⟩ = some (.int .i64 y.id) ∧ W.cell? ⟨b, off + i * 4 + 1, none⟩ = some (.int .i64 y.last) ∧ W.cell? ⟨b, off + i * 4 + 2, none⟩ = some (.int .i64 y.used) ∧ W.cell? ⟨b, off + i * 4 + 3, none⟩ = some (.string y.x) ∧
          W.cell? ⟨w.heap.size + 1, 0, none⟩ = some (.int .i64 r.id) ∧ W.cell? ⟨w.heap.size + 1, 1, none⟩ = some (.int .i64 r.last) ∧ W.cell? ⟨w.heap.size + 1, 2, none⟩ = some (.int .i64 r.used) ∧ W.cell? ⟨w.heap.size + 1, 3, none⟩ = some (.string r.x) := fun W hW => by
        obtain ⟨c0, c1, c2, c3⟩ := hcells'.out W (below_then hM.below hW) i y hy
        obtain ⟨d0, d1, d2, d3, _⟩ := cells4 ((hW.block _ (Array.getElem?_eq_some_iff.1 hM.cur).1).trans hM.cur)
        exact ⟨hW, c0, c1, c2, c3, d0, d1, d2, d3⟩
      have hnext : ∀ W, Below wr.heap.size wr W → (y.used < r.used → MinWS t w.heap.size (w.heap.size + 1) (i + 1) i y w (put4 W (w.heap.size + 1) (.int .i64 y.id) (.int .i64 y.last) (.int .i64 y.used) (.string y.x))) ∧ (¬ y.used < r.used → MinWS t w.heap.size (w.heap.size + 1) (i + 1) k r w W) ∧ W.frozen? ⟨w.heap.size + 1, 0, none⟩ = false ∧ W.frozen? ⟨w.heap.size + 1, 1, none⟩ = false ∧ W.frozen? ⟨w.heap.size + 1, 2, none⟩ = false ∧ W.frozen? ⟨w.heap.size + 1, 3, none⟩ = false := fun W hW => by
        have e5 := (hW.block _ (Array.getElem?_eq_some_iff.1 hM.cur).1).trans hM.cur
        have e4 := (hW.block _ (Array.getElem?_eq_some_iff.1 hM.res).1).trans hM.res
        obtain ⟨_, _, _, _, f0, f1, f2, f3⟩ := cells4 e5
        refine ⟨fun h => ⟨hy, Nat.lt_succ_self _, min_less hM.min hM.lt hM.at_ hy h, below_put4 (below_then hM.below hW) (Nat.le_succ _) _ _ _ _, ?_, put4_heap e5 _ _ _ _⟩, fun h => ⟨hM.at_, by have := hM.lt; omega, min_keep hM.min hM.at_ hy h, below_then hM.below hW, e4, e5⟩, f0, f1, f2, f3⟩
        rw [put4_block _ _ _ _ _ _ (by omega)]; exact e4
      have cU := usedFnS y r wr.drew
      obtain ⟨R, hR⟩ : ∃ R, cmpI y.used r.used = R := ⟨_, rfl⟩
      have hRl := cmpI_less y.used r.used
      rw [hR] at cU hRl
      obtain ⟨yi, yl, yu, yx⟩ := y
      obtain ⟨ri, rl, ru, rx⟩ := r
      simp only at hS hnext cU hRl
      obtain ⟨_, q0, q1, q2, q3, q4, q5, q6, q7⟩ := hS wr (Below.refl _ _)
      have hS' := Lib.hid hS
      have hnext' := Lib.hid hnext
      clear hS hnext hR hM hy
      go_wp2_with fail
      go_region_held3 (fun W => Below wr.heap.size wr W ∧ W.cell? ⟨b, off + i * 4, none⟩ = some (.int .i64 yi) ∧ W.cell? ⟨b, off + i * 4 + 1, none⟩ = some (.int .i64 yl) ∧ W.cell? ⟨b, off + i * 4 + 2, none⟩ = some (.int .i64 yu) ∧ W.cell? ⟨b, off + i * 4 + 3, none⟩ = some (.string yx) ∧
          W.cell? ⟨w.heap.size + 1, 0, none⟩ = some (.int .i64 ri) ∧ W.cell? ⟨w.heap.size + 1, 1, none⟩ = some (.int .i64 rl) ∧ W.cell? ⟨w.heap.size + 1, 2, none⟩ = some (.int .i64 ru) ∧ W.cell? ⟨w.heap.size + 1, 3, none⟩ = some (.string rx))
        (refine hS'.out _ ?_ <;> first | assumption | exact Below.drew (Below.refl _ _))
        (first | (go_at_fn 37; refine cU.mono ?_; rintro e wx ⟨rfl, hbx⟩; have hbx2 : Below wr.heap.size wr wx := ⟨hbx.os, hbx.tape, hbx.output, hbx.size, hbx.block⟩))
      obtain ⟨g1, g2, f0, f1, f2, f3⟩ := hnext'.out wx hbx2
      obtain ⟨_, p0, p1, p2, p3, p4, p5, p6, p7⟩ := hS'.out wx hbx2
      have g1' := Lib.hid g1
      have g2' := Lib.hid g2
      clear g1 g2 q0 q1 q2 q3 q4 q5 q6 q7 hbx hbx2 cU
      by_cases hl2 : yu < ru
      · have hR2 : decide (yu < ru) = true := by simpa using hl2
        have hfin := Lib.hid (g1'.out hl2)
        clear hRl g1' g2' hl2
        rw [hR2]
        go_wp2
        go_roundw
        case rel => exact ⟨i + 1, i, _, by go_num, by omega, by omega, hfin.out⟩
        case measure => simp [RowKit.intOf]; omega
      · have hR2 : decide (yu < ru) = false := by simpa using hl2
        have hfin := Lib.hid (g2'.out (by omega))
        clear hRl g1' g2' hl2
        rw [hR2]
        go_wp2
        go_roundw
        case rel => exact ⟨i + 1, k, _, by go_num, by omega, by omega, hfin.out⟩
        case measure => simp [RowKit.intOf]; omega
    · obtain rfl : i = n := by omega
      obtain ⟨p0, p1, p2, p3, _⟩ := cells4 hM.cur
      obtain ⟨q0, q1, q2, q3, f0, f1, f2, f3⟩ := cells4 hM.res
      clear hM
      obtain ⟨ri, rl, ru, rx⟩ := r
      simp only at p0 p1 p2 p3
      go_wp2
      exact bodyPost_ret (ro_retS rfl _ _ w.heap.size _ _ _ _ rfl (put4_heap hM'.out.res _ _ _ _)) rfl ⟨⟨k, _, rfl, hM'.out.at_, hM'.out.min⟩, below_put4 hM'.out.below (Nat.le_refl _) _ _ _ _⟩
end Go.Proofs.Ytnmcgmfpalgpnaa.Se
