/-
  slices.MinFunc AND DeleteFunc AT ROWS WHOSE RESULT IS OF TYPE int; THE PROGRAM's forget.
-/
import Derived.Test.YtnmcgmfpalgpnaaSesDoneI
import Derived.Test.YtnmcgmfpalgpnaaSesRefOpen
import Derived.Test.YtnmcgmfpalgpnaaSesMinS
set_option linter.unusedVariables false
namespace Go.Proofs.Ytnmcgmfpalgpnaa.Se
open Go.Lib Go.RowKit

set_option maxHeartbeats 2000000 in
set_option maxRecDepth 100000 in
theorem usedFnI (r s : Ro Int) (W : World) : Calls Try.prog 44 #[.agg #[.int .i64 r.id, .int .i64 r.last, .int .i64 r.used, .int .i64 r.x], .agg #[.int .i64 s.id, .int .i64 s.last, .int .i64 s.used, .int .i64 s.x]] W fun e w' => e = .returned (.int .i64 (cmpI r.used s.used)) ∧ Below W.heap.size W w' := by
  obtain ⟨rid, rl, ru, rx⟩ := r
  obtain ⟨sid, sl, su, sx⟩ := s
  simp only
  have cC := fun W => cmp_i ru su W
  have h1 : Below W.heap.size W (W.alloc (.cells #[.int .i64 rid, .int .i64 rl, .int .i64 ru, .int .i64 rx] 59)) := (Below.refl _ _).alloc (Nat.le_refl _) _
  have h2 := h1.alloc h1.size (.cells #[.int .i64 sid, .int .i64 sl, .int .i64 su, .int .i64 sx] 59)
  have k0 : ((W.alloc (.cells #[.int .i64 rid, .int .i64 rl, .int .i64 ru, .int .i64 rx] 59)).alloc (.cells #[.int .i64 sid, .int .i64 sl, .int .i64 su, .int .i64 sx] 59)).cell? ⟨W.heap.size, 2, none⟩ = some (.int .i64 ru) := by
    refine Lib.cell?_alloc_some _ ?_
    rw [Lib.cell_of_heap (heap_alloc_new W _)]; rfl
  have h2' := Lib.hid h2
  generalize cmpI ru su = R at cC ⊢
  have cC' := Lib.hid cC
  clear h1 h2 cC
  go_enter Try.func44, Try.ntmps44
  go_wp2_with (go_at_call 38; refine (cC'.out _).mono ?_; rintro e w' ⟨rfl, rfl⟩)
  go_ret
  exact ⟨rfl, h2'.out⟩

theorem ro_retI {fn : Func} {p : Tmp} (h : fn.results = #[.cell p 59]) (tmps : Array Value) (W : World) (g : Nat) (i l u : Int) (x : Int) (hp : tmps.getD p undef = .pointer (some ⟨g, 0, none⟩))
    (hg : W.heap[g]? = some (.cells #[.int .i64 i, .int .i64 l, .int .i64 u, .int .i64 x] 59 (0, 0))) : (results fn tmps).run Try.prog W = .ok (.agg #[.int .i64 i, .int .i64 l, .int .i64 u, .int .i64 x]) W :=
  results_cell_row h tmps W g _ _ _ _ hp hg Try.underlying59 rfl (by kernel_rfl)
/-- what stands in MinFunc's loop: the least so far in block x5 -/
structure MinWI (t : Tb Int) (x4 x5 i k : Nat) (r : Ro Int) (w wr : World) : Prop where
  at_ : t[k]? = some r
  lt : k < i
  min : MinAt t k i
  below : Below w.heap.size w wr
  res : wr.heap[x4]? = some (.cells #[.int .i64 0, .int .i64 0, .int .i64 0, .int .i64 0] 59 (0, 0))
  cur : wr.heap[x5]? = some (.cells #[.int .i64 r.id, .int .i64 r.last, .int .i64 r.used, .int .i64 r.x] 59 (0, 0))

set_option maxHeartbeats 8000000 in
set_option maxRecDepth 100000 in
theorem minI (t : Tb Int) (v : Value) (w : World) (hv : RsAt eI w v t) (hl : t.length ≤ 8) (h0 : 0 < t.length) :
    Calls Try.prog 43 #[v, .func (.func 44) #[] #[]] w fun e w' => (∃ (k : Nat) (r : Ro Int), e = .returned (.agg #[.int .i64 r.id, .int .i64 r.last, .int .i64 r.used, .int .i64 r.x]) ∧ t[k]? = some r ∧ MinAt t k t.length) ∧ Below w.heap.size w w' := by
  have eg : ∀ args w, (callFunc 44 args).run Try.prog w = .ok (.enter 44 args) w := fun _ _ => rfl
  obtain ⟨A, b, off, c, rfl, h1, h2, h3, h4⟩ := hv
  obtain ⟨rfl, hg⟩ := h3 h0
  obtain ⟨n, hn⟩ : ∃ n, t.length = n := ⟨_, rfl⟩
  rw [hn] at hl h0 h1 ⊢
  have hcells : ∀ W, Below w.heap.size w W → ∀ (j : Nat) (r : Ro Int), t[j]? = some r → RoCells eI W b (off + j * 4) r := fun W hW j r hr => (h4 j r hr).kept eI hg hW
  obtain ⟨r0, hr0⟩ : ∃ r, t[0]? = some r := ⟨_, List.getElem?_eq_getElem (by omega)⟩
  have hb1 : Below w.heap.size w (w.alloc (.cells #[.int .i64 0, .int .i64 0, .int .i64 0, .int .i64 0] 59)) := (Below.refl _ _).alloc (Nat.le_refl _) _
  obtain ⟨y0, y1, y2, y3⟩ := hcells _ hb1 0 r0 hr0
  rw [Nat.zero_mul, Nat.add_zero] at y0 y1 y2 y3
  have hst : MinWI t w.heap.size (w.heap.size + 1) 1 0 r0 w ((w.alloc (.cells #[.int .i64 0, .int .i64 0, .int .i64 0, .int .i64 0] 59)).alloc (.cells #[.int .i64 r0.id, .int .i64 r0.last, .int .i64 r0.used, .int .i64 r0.x] 59)) := by
    refine ⟨hr0, Nat.zero_lt_one, min_new hr0 rfl, hb1.alloc hb1.size _, ?_, ?_⟩
    · have hb2 : Below (w.heap.size + 1) (w.alloc (.cells #[.int .i64 0, .int .i64 0, .int .i64 0, .int .i64 0] 59)) ((w.alloc (.cells #[.int .i64 0, .int .i64 0, .int .i64 0, .int .i64 0] 59)).alloc (.cells #[.int .i64 r0.id, .int .i64 r0.last, .int .i64 r0.used, .int .i64 r0.x] 59)) := (Below.refl _ _).alloc (by simp) _
      rw [hb2.block w.heap.size (Nat.lt_succ_self _)]
      exact heap_alloc_new _ _
    · have := heap_alloc_new (w.alloc (.cells #[.int .i64 0, .int .i64 0, .int .i64 0, .int .i64 0] 59)) (.cells #[.int .i64 r0.id, .int .i64 r0.last, .int .i64 r0.used, .int .i64 r0.x] 59)
      simpa using this
  obtain ⟨i0, l0, u0, x0⟩ := r0
  simp only at y0 y1 y2 y3 hst
  have hcells' := Lib.hid hcells
  have hn' := Lib.hid hn
  have hst' := Lib.hid hst
  clear hcells hn hst hr0 hb1 h4 hg h3
  unfold maxLen at h2
  go_enter Try.func43, Try.ntmps43
  go_wp2
  go_loopw [6] (fun s6 wr => ∃ (i k : Nat) (r : Ro Int), s6 = .int .i64 (i : Int) ∧ i ≤ n ∧ 1 ≤ i ∧ MinWI t w.heap.size (w.heap.size + 1) i k r w wr) (fun s6 wr => n - (RowKit.intOf s6).toNat)
  case atStart => exact ⟨1, 0, _, rfl, h0, Nat.le_refl _, hst'.out⟩
  case round =>
    obtain ⟨i, k, r, rfl, hi, hi1, hM⟩ := hrel
    have hM' := Lib.hid hM
    by_cases hlt : i < n
    · obtain ⟨y, hy⟩ : ∃ y, t[i]? = some y := ⟨_, List.getElem?_eq_getElem (by rw [hn'.out]; exact hlt)⟩
      have hS : ∀ W, Below wr.heap.size wr W → Below wr.heap.size wr W ∧ W.cell? ⟨b, off + i * 4, none⟩ = some (.int .i64 y.id) ∧ W.cell? ⟨b, off + i * 4 + 1, none⟩ = some (.int .i64 y.last) ∧ W.cell? ⟨b, off + i * 4 + 2, none⟩ = some (.int .i64 y.used) ∧ W.cell? ⟨b, off + i * 4 + 3, none⟩ = some (.int .i64 y.x) ∧
          W.cell? ⟨w.heap.size + 1, 0, none⟩ = some (.int .i64 r.id) ∧ W.cell? ⟨w.heap.size + 1, 1, none⟩ = some (.int .i64 r.last) ∧ W.cell? ⟨w.heap.size + 1, 2, none⟩ = some (.int .i64 r.used) ∧ W.cell? ⟨w.heap.size + 1, 3, none⟩ = some (.int .i64 r.x) := fun W hW => by
        obtain ⟨c0, c1, c2, c3⟩ := hcells'.out W (below_then hM.below hW) i y hy
        obtain ⟨d0, d1, d2, d3, _⟩ := cells4 ((hW.block _ (Array.getElem?_eq_some_iff.1 hM.cur).1).trans hM.cur)
        exact ⟨hW, c0, c1, c2, c3, d0, d1, d2, d3⟩
      have hnext : ∀ W, Below wr.heap.size wr W → (y.used < r.used → MinWI t w.heap.size (w.heap.size + 1) (i + 1) i y w (put4 W (w.heap.size + 1) (.int .i64 y.id) (.int .i64 y.last) (.int .i64 y.used) (.int .i64 y.x))) ∧ (¬ y.used < r.used → MinWI t w.heap.size (w.heap.size + 1) (i + 1) k r w W) ∧ W.frozen? ⟨w.heap.size + 1, 0, none⟩ = false ∧ W.frozen? ⟨w.heap.size + 1, 1, none⟩ = false ∧ W.frozen? ⟨w.heap.size + 1, 2, none⟩ = false ∧ W.frozen? ⟨w.heap.size + 1, 3, none⟩ = false := fun W hW => by
        have e5 := (hW.block _ (Array.getElem?_eq_some_iff.1 hM.cur).1).trans hM.cur
        have e4 := (hW.block _ (Array.getElem?_eq_some_iff.1 hM.res).1).trans hM.res
        obtain ⟨_, _, _, _, f0, f1, f2, f3⟩ := cells4 e5
        refine ⟨fun h => ⟨hy, Nat.lt_succ_self _, min_less hM.min hM.lt hM.at_ hy h, below_put4 (below_then hM.below hW) (Nat.le_succ _) _ _ _ _, ?_, put4_heap e5 _ _ _ _⟩, fun h => ⟨hM.at_, by have := hM.lt; omega, min_keep hM.min hM.at_ hy h, below_then hM.below hW, e4, e5⟩, f0, f1, f2, f3⟩
        rw [put4_block _ _ _ _ _ _ (by omega)]; exact e4
      have cU := usedFnI y r wr.drew
      obtain ⟨R, hR⟩ : ∃ R, cmpI y.used r.used = R := ⟨_, rfl⟩
      have hRl := cmpI_less y.used r.used
      rw [hR] at cU hRl
      obtain ⟨yi, yl, yu, yx⟩ := y
      obtain ⟨ri, rl, ru, rx⟩ := r
      simp only at hS hnext cU hRl
      obtain ⟨_, q0, q1, q2, q3, q4, q5, q6, q7⟩ := hS wr (Below.refl _ _)
      have hS' := Lib.hid hS
      have hnext' := Lib.hid hnext
      clear hS hnext hR hM hy
      go_wp2_with fail
      go_region_held3 (fun W => Below wr.heap.size wr W ∧ W.cell? ⟨b, off + i * 4, none⟩ = some (.int .i64 yi) ∧ W.cell? ⟨b, off + i * 4 + 1, none⟩ = some (.int .i64 yl) ∧ W.cell? ⟨b, off + i * 4 + 2, none⟩ = some (.int .i64 yu) ∧ W.cell? ⟨b, off + i * 4 + 3, none⟩ = some (.int .i64 yx) ∧
          W.cell? ⟨w.heap.size + 1, 0, none⟩ = some (.int .i64 ri) ∧ W.cell? ⟨w.heap.size + 1, 1, none⟩ = some (.int .i64 rl) ∧ W.cell? ⟨w.heap.size + 1, 2, none⟩ = some (.int .i64 ru) ∧ W.cell? ⟨w.heap.size + 1, 3, none⟩ = some (.int .i64 rx))
        (refine hS'.out _ ?_ <;> first | assumption | exact Below.drew (Below.refl _ _))
        (first | (go_at_fn 44; refine cU.mono ?_; rintro e wx ⟨rfl, hbx⟩; have hbx2 : Below wr.heap.size wr wx := ⟨hbx.os, hbx.tape, hbx.output, hbx.size, hbx.block⟩))
      obtain ⟨g1, g2, f0, f1, f2, f3⟩ := hnext'.out wx hbx2
      obtain ⟨_, p0, p1, p2, p3, p4, p5, p6, p7⟩ := hS'.out wx hbx2
      have g1' := Lib.hid g1
      have g2' := Lib.hid g2
      clear g1 g2 q0 q1 q2 q3 q4 q5 q6 q7 hbx hbx2 cU
      by_cases hl2 : yu < ru
      · have hR2 : decide (yu < ru) = true := by simpa using hl2
        have hfin := Lib.hid (g1'.out hl2)
        clear hRl g1' g2' hl2
        rw [hR2]
        go_wp2
        go_roundw
        case rel => exact ⟨i + 1, i, _, by go_num, by omega, by omega, hfin.out⟩
        case measure => simp [RowKit.intOf]; omega
      · have hR2 : decide (yu < ru) = false := by simpa using hl2
        have hfin := Lib.hid (g2'.out (by omega))
        clear hRl g1' g2' hl2
        rw [hR2]
        go_wp2
        go_roundw
        case rel => exact ⟨i + 1, k, _, by go_num, by omega, by omega, hfin.out⟩
        case measure => simp [RowKit.intOf]; omega
    · obtain rfl : i = n := by omega
      obtain ⟨p0, p1, p2, p3, _⟩ := cells4 hM.cur
      obtain ⟨q0, q1, q2, q3, f0, f1, f2, f3⟩ := cells4 hM.res
      clear hM
      obtain ⟨ri, rl, ru, rx⟩ := r
      simp only at p0 p1 p2 p3
      go_wp2
      exact bodyPost_ret (ro_retI rfl _ _ w.heap.size _ _ _ _ rfl (put4_heap hM'.out.res _ _ _ _)) rfl ⟨⟨k, _, rfl, hM'.out.at_, hM'.out.min⟩, below_put4 hM'.out.below (Nat.le_refl _) _ _ _ _⟩
end Go.Proofs.Ytnmcgmfpalgpnaa.Se
