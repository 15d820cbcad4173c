/-
  THE WALK OF calepinlaw13.SessionPlays.
-/
import Derived.Test.YtnmcgmfpalgpnaaSesAll
import Derived.Test.YtnmcgmfpalgpnaaSesDuo
import Derived.Test.YtnmcgmfpalgpnaaKindActs
set_option linter.unusedVariables false
namespace Go.Proofs.Ytnmcgmfpalgpnaa.Se
open Go.Lib Go.RowKit

theorem four_cases (z : Int) : (IntKind.u64.wrap z).tmod 4 = 0 ∨ (IntKind.u64.wrap z).tmod 4 = 1 ∨ (IntKind.u64.wrap z).tmod 4 = 2 ∨ (IntKind.u64.wrap z).tmod 4 = 3 := by
  obtain ⟨r, h, hr⟩ := modN z (n := 4) (by omega) (by omega)
  have h' : (IntKind.u64.wrap z).tmod 4 = (r : Int) := h
  rw [h']
  omega
theorem wrap64_small {m : Nat} (h : m ≤ 8) : wrap64 (m : Int) = (m : Int) := IntWalk.wrap64_in _ ⟨by omega, by omega⟩
theorem wrapU_small {n : Nat} (h : n ≤ 8) : IntKind.u64.wrap (n : Int) = (n : Int) := by
  unfold IntKind.wrap
  simp only [IntKind.bits, IntKind.signed]
  simp only [Bool.false_and, Bool.false_eq_true, if_false]
  omega
theorem ne0 {n : Nat} (h : 0 < n) : ¬ (n : Int) = 0 := by omega
theorem duo_start (w : World) : Duo w.heap.size w.heap.size (w.heap.size + 1) (.slice none 0 0) (.slice none 0 0) [] [] ((w.alloc (.cells #[.slice none 0 0] 26)).alloc (.cells #[.slice none 0 0] 29)) := by
  have h1 : TabS w.heap.size w.heap.size (.slice none 0 0) [] (w.alloc (.cells #[.slice none 0 0] 26)) := fresh_tab eS _ _ w
  have h2 : TabR (w.alloc (.cells #[.slice none 0 0] 26)).heap.size (w.alloc (.cells #[.slice none 0 0] 26)).heap.size (.slice none 0 0) [] ((w.alloc (.cells #[.slice none 0 0] 26)).alloc (.cells #[.slice none 0 0] 29)) := fresh_tab eS _ _ _
  have hz : (w.alloc (.cells #[.slice none 0 0] 26)).heap.size = w.heap.size + 1 := by simp
  rw [hz] at h2
  exact ⟨h1.kept ((Below.refl _ _).alloc (Nat.le_refl _) _), h2.less (Nat.le_succ _), by omega, by simp [Value.ownBlock], by simp [Value.ownBlock], fun k hk => by simp [Value.ownBlock] at hk⟩

set_option maxHeartbeats 32000000 in
set_option maxRecDepth 100000 in
theorem plays_walk (v : Value) (L : List La.Ac) (w : World) (hv : La.ActsAt w v L) :
    Calls Try.prog 3 #[v] w fun e w' => e = .returned (.bool true) ∧ Below w.heap.size w w' := by
  have cF := first_any openS askS doneS w
  obtain ⟨A, g, off, c, rfl, h1, h2, h3, h4⟩ := hv
  obtain ⟨n, hn⟩ : ∃ n, L.length = n := ⟨_, rfl⟩
  rw [hn] at h1 h3 ⊢
  unfold maxLen at h2
  have hn' := Lib.hid hn
  have h3' := Lib.hid h3
  have h4' := Lib.hid h4
  clear hn h3 h4
  go_enter Try.func3, Try.ntmps3
  go_wp2_with fail
  go_at_call 7
  refine cF.mono ?_
  rintro e w1 ⟨rfl, hb1⟩
  have hst := duo_start w1
  have hbs : Below w.heap.size w ((w1.alloc (.cells #[.slice none 0 0] 26)).alloc (.cells #[.slice none 0 0] 29)) := (hb1.alloc hb1.size _).alloc (by have := hb1.size; simp; omega) _
  have hlow := hb1.size
  obtain ⟨b, hb⟩ : ∃ b, w1.heap.size = b := ⟨_, rfl⟩
  rw [hb] at hst hlow
  have hst' := Lib.hid hst
  have hbs' := Lib.hid hbs
  have hlow' := Lib.hid hlow
  clear cF hst hbs hb1 hlow
  go_wp2
  go_loopw [22] (fun s22 wr => ∃ (i : Nat) (T : Tb ByteArray) (u ur : Value), s22 = .int .i64 (i : Int) ∧ i ≤ n ∧ i ≤ 80 ∧ Duo b b (b + 1) u ur T T wr ∧ T.length ≤ 8 ∧ (T.map Ro.id).Nodup ∧ Below w.heap.size w wr) (fun s22 wr => n - (RowKit.intOf s22).toNat)
  case atStart => exact ⟨0, [], _, _, rfl, Nat.zero_le _, Nat.zero_le _, hst'.out, by simp, by simp, hbs'.out⟩
  case round =>
    obtain ⟨i, T, u, ur, rfl, hi, hi80, hD, hT8, hnd, hbw⟩ := hrel
    have hD' := Lib.hid hD
    have hnd' := Lib.hid hnd
    have hbw' := Lib.hid hbw
    by_cases hlt : i < n
    rotate_left
    · clear hD hnd hbw
      go_wp2
      go_ret
      exact ⟨rfl, hbw'.out⟩
    obtain ⟨a, ha⟩ : ∃ a, L[i]? = some a := ⟨_, List.getElem?_eq_getElem (by rw [hn'.out]; exact hlt)⟩
    obtain ⟨rfl, hg⟩ := h3'.out (by omega)
    obtain ⟨c0, c1, c2, c3, c4⟩ := h4'.out i a ha
    rw [← hbw.cell (p := ⟨g, off + i * 5, none⟩) hg] at c0
    rw [← hbw.cell (p := ⟨g, off + i * 5 + 1, none⟩) hg] at c1
    rw [← hbw.cell (p := ⟨g, off + i * 5 + 2, none⟩) hg] at c2
    rw [← hbw.cell (p := ⟨g, off + i * 5 + 3, none⟩) hg] at c3
    rw [← hbw.cell (p := ⟨g, off + i * 5 + 4, none⟩) hg] at c4
    obtain ⟨ak, aid, asq, anow, ax⟩ := a
    simp only at c0 c1 c2 c3 c4
    have hal : Below wr.heap.size wr (wr.alloc (.cells #[.int .i64 ak, .int .i64 aid, .int .i64 asq, .int .i64 anow, .string ax] 31)) := (Below.refl _ _).alloc (Nat.le_refl _) _
    have hDA := hD.kept hal
    have hbA := hbw.trans (hal.mono hbw.size)
    have hFA := hD.free (Nat.le_refl wr.heap.size)
    have hgaA : (wr.alloc (.cells #[.int .i64 ak, .int .i64 aid, .int .i64 asq, .int .i64 anow, .string ax] 31)).heap[wr.heap.size]? = some (.cells #[.int .i64 ak, .int .i64 aid, .int .i64 asq, .int .i64 anow, .string ax] 31 (0, 0)) := heap_alloc_new _ _
    by_cases h80 : 80 ≤ i
    · have hbA' := Lib.hid hbA
      clear hD hnd hbw hDA hbA hFA hgaA ha
      go_wp2
      go_ret
      exact ⟨rfl, hbA'.out⟩
    have hDA' := Lib.hid hDA
    have hbA' := Lib.hid hbA
    have hFA' := Lib.hid hFA
    have hgaA' := Lib.hid hgaA
    have hbB : b ≤ (wr.alloc (.cells #[.int .i64 ak, .int .i64 aid, .int .i64 asq, .int .i64 anow, .string ax] 31)).heap.size := by have := hDA.l.lt; omega
    have hbB' := Lib.hid hbB
    clear hD hnd hbw hal hDA hbA hFA hgaA ha hbB
    have hcl : ∀ W : World, W.heap[wr.heap.size]? = some (.cells #[.int .i64 ak, .int .i64 aid, .int .i64 asq, .int .i64 anow, .string ax] 31 (0, 0)) → W.cell? ⟨wr.heap.size, 0, none⟩ = some (.int .i64 ak) ∧ W.cell? ⟨wr.heap.size, 1, none⟩ = some (.int .i64 aid) ∧ W.cell? ⟨wr.heap.size, 2, none⟩ = some (.int .i64 asq) ∧ W.cell? ⟨wr.heap.size, 3, none⟩ = some (.int .i64 anow) ∧ W.cell? ⟨wr.heap.size, 4, none⟩ = some (.string ax) := fun W h =>
      ⟨Lib.cell_of_heap h 0, Lib.cell_of_heap h 1, Lib.cell_of_heap h 2, Lib.cell_of_heap h 3, Lib.cell_of_heap h 4⟩
    have hcl' := Lib.hid hcl
    clear hcl
    obtain ⟨w0, hw0⟩ : ∃ w0, wr.alloc (.cells #[.int .i64 ak, .int .i64 aid, .int .i64 asq, .int .i64 anow, .string ax] 31) = w0 := ⟨_, rfl⟩
    rw [hw0] at hDA' hbA' hgaA' hbB'
    have hw0s : wr.heap.size < w0.heap.size := by rw [← hw0]; simp
    obtain ⟨_, q1, q2, q3, q4⟩ := hcl'.out w0 hgaA'.out
    have hlowb := hlow'.out
    rcases four_cases ak with hm | hm | hm | hm
    rotate_right
    focus
      have cRw := rowsS b b u T w0 hDA'.out.l hbB'.out hT8
      subst hw0
      go_wp2_with fail
      go_at_call 14
      refine cRw.mono ?_
      rintro e w2 ⟨⟨vl, rfl, hR2⟩, hb2⟩
      have hD2 := hDA'.out.kept hb2
      have hga2 := (hb2.block wr.heap.size hw0s).trans hgaA'.out
      obtain ⟨_, z1, z2, z3, z4⟩ := hcl'.out w2 hga2
      have hbw2 := hbA'.out.trans (hb2.mono hbA'.out.size)
      have hb2s := Nat.le_trans hbB'.out hb2.size
      obtain ⟨n0, hn0⟩ : ∃ n0, T.length = n0 := ⟨_, rfl⟩
      obtain ⟨A4, k4, hvl⟩ := ownsRow_form hR2
      rw [hn0] at hvl
      subst hvl
      have hfree : ∀ k, (Value.slice A4 n0 k4).ownBlock = some k → Free b (b + 1) u ur k ∧ k < w2.heap.size := fun k hk => ⟨hDA'.out.free (hR2.lt k hk).1, (hR2.lt k hk).2⟩
      have hn0' := Lib.hid hn0
      have hR2' := Lib.hid hR2
      have hD2' := Lib.hid hD2
      have hbw2' := Lib.hid hbw2
      have hb2s' := Lib.hid hb2s
      have hfree' := Lib.hid hfree
      have hn08 : n0 ≤ 8 := by omega
      clear cRw hR2 hD2 hbw2 hb2s hfree hb2 hga2 hn0 hm q1 q2 q3 q4 c0 c1 c2 c3 c4
      rcases Nat.eq_zero_or_pos n0 with h0 | h0
      focus
        have d0 : decide ((0 : Int) < (n0 : Int)) = false := by simp; omega
        obtain ⟨w4, hw4⟩ : ∃ w4, w2 = w4 := ⟨_, rfl⟩
        obtain ⟨l4, hl4⟩ : ∃ l4, T = l4 := ⟨_, rfl⟩
        have hD4 : Hid (Duo b b (b + 1) u ur T T w4) := hw4 ▸ hD2'
        have hR4 : Hid (RsOwn eS 42 0 (.slice A4 n0 k4) l4 w4) := Lib.hid (by rw [← hw4, ← hl4]; exact ownsRow_less hR2'.out (Nat.zero_le _))
        have hL4 : Hid (l4.length = n0) := hl4 ▸ hn0'
        have hb4 : Hid (Below w.heap.size w w4) := hw4 ▸ hbw2'
        have hb4s : Hid (b ≤ w4.heap.size) := hw4 ▸ hb2s'
        have hf4 : Hid (∀ k, (Value.slice A4 n0 k4).ownBlock = some k → Free b (b + 1) u ur k ∧ k < w4.heap.size) := hw4 ▸ hfree'
        have d0n : decide (0 < n0) = false := by simp; omega
        have d0m : ¬ 0 < n0 := by omega
        clear h0 hl4 hw0s z1 z2 z3 z4
        have hlo4 : Hid (∀ k, (Value.slice A4 n0 k4).ownBlock = some k → w.heap.size ≤ k) := Lib.hid (fun k hk => Nat.le_trans hbA'.out.size (hR2'.out.lt k hk).1)
        go_wp2_with fail
        obtain ⟨T9, hT9⟩ : ∃ T9, (setT T l4).1 = T9 := ⟨_, rfl⟩
        obtain ⟨q, hq⟩ : ∃ q, (setT T l4).2 = q := ⟨_, rfl⟩
        have h98 : T9.length ≤ 8 := by rw [← hT9]; exact set_len hT8
        have hnd9 := Lib.hid (show (T9.map Ro.id).Nodup by rw [← hT9]; exact set_ids hnd'.out)
        have hlen4 : l4.length ≤ 1099511627776 := by rw [hL4.out]; omega
        have hat4 : RsAt eS w4 (.slice A4 n0 k4) l4 := hR4.out.at
        have cO := setS b b u _ T l4 w4 hD4.out.l hb4s.out hat4 hlen4
        have cR : ∀ W, TabR b (b + 1) ur T W → b ≤ W.heap.size → RsAt eS W (.slice A4 n0 k4) l4 → Calls Try.prog 16 #[.pointer (some ⟨b + 1, 0, none⟩), .slice A4 n0 k4] W fun e w' => e = .returned (.bool q) ∧ After eS 29 42 b (b + 1) ur T9 W w' := fun W h1 h2 h3 => by
          rw [← hT9, ← hq]
          exact refSet_any b (b + 1) ur _ T l4 W h1 h2 h3 hlen4
        rw [hT9, hq] at cO
        have cR' := Lib.hid cR
        clear hT9 hq cR hat4
        go_at_call 15
        refine cO.mono ?_
        rintro e w5 ⟨rfl, hA5⟩
        obtain ⟨u9, hD5, hfr5, hsz5, hbl5⟩ := hD4.out.left hA5
        have hR5 : RsOwn eS 42 0 (.slice A4 n0 k4) l4 w5 := ownsRow_left hR4.out fun g hg => (hfr5 g (hf4.out g hg).2 (hf4.out g hg).1).2
        have cB := cR'.out w5 hD5.r (Nat.le_trans hb4s.out hsz5) hR5.at
        have hf5 := Lib.hid (show ∀ k, (Value.slice A4 n0 k4).ownBlock = some k → Free b (b + 1) u9 ur k ∧ k < w5.heap.size from fun k hk => ⟨(hfr5 k (hf4.out k hk).2 (hf4.out k hk).1).1, Nat.lt_of_lt_of_le (hf4.out k hk).2 hsz5⟩)
        have hb5 := Lib.hid (hbl5 w.heap.size w hlow'.out hb4.out.size hb4.out)
        have hb5s := Lib.hid (Nat.le_trans hb4s.out hsz5)
        have hD5 := Lib.hid hD5
        have hR5 := Lib.hid hR5
        clear cO hA5 hfr5 hsz5 hbl5 cR'
        go_wp2_with fail
        go_at_call 16
        refine cB.mono ?_
        rintro e w6 ⟨rfl, hA6⟩
        obtain ⟨ur9, hD6, hfr6, hsz6, hbl6⟩ := hD5.out.right hA6
        have hR6 : Hid (∃ l : Tb ByteArray, l.length = n0 ∧ RsOwn eS 42 0 (.slice A4 n0 k4) l w6) := Lib.hid ⟨l4, hL4.out, ownsRow_left hR5.out fun g hg => (hfr6 g (hf5.out g hg).2 (hf5.out g hg).1).2⟩
        have hf6 := Lib.hid (show ∀ k, (Value.slice A4 n0 k4).ownBlock = some k → Free b (b + 1) u9 ur9 k ∧ w.heap.size ≤ k from fun k hk => ⟨(hfr6 k (hf5.out k hk).2 (hf5.out k hk).1).1, hlo4.out k hk⟩)
        have hb6 := Lib.hid (hbl6 w.heap.size w hlow'.out hb5.out.size hb5.out)
        have hb6s := Lib.hid (Nat.le_trans hb5s.out hsz6)
        have hD6 := Lib.hid hD6
        have d : (q != q) = false := by simp
        clear cB hA6 hfr6 hsz6 hbl6 hD5 hR5 hf5 hb5 hb5s hf4 hb4 hb4s hD4 hR4
        go_wp2
        go_loopw [65] (fun s65 wx => ∃ k : Nat, s65 = .int .i64 (k : Int) ∧ k ≤ n0 ∧ Hid (∃ l : Tb ByteArray, l.length = n0 ∧ RsOwn eS 42 0 (.slice A4 n0 k4) l wx) ∧ Hid (Duo b b (b + 1) u9 ur9 T9 T9 wx) ∧ Hid (Below w.heap.size w wx) ∧ Hid (b ≤ wx.heap.size)) (fun s65 wx => n0 - (RowKit.intOf s65).toNat)
        case atStart => exact ⟨0, rfl, Nat.zero_le _, hR6, hD6, hb6, hb6s⟩
        case' round =>
          obtain ⟨k, rfl, hk, hX, hDx, hbx, hbxs⟩ := hrel
          by_cases hltk : k < n0
          · exact absurd hltk (by omega)
          obtain ⟨w9, hw9⟩ : ∃ w9, wr = w9 := ⟨_, rfl⟩
          have hD9 : Hid (Duo b b (b + 1) u9 ur9 T9 T9 w9) := hw9 ▸ hDx
          have hb9 : Hid (Below w.heap.size w w9) := hw9 ▸ hbx
          have hb99 : Hid (b ≤ w9.heap.size) := hw9 ▸ hbxs
          clear hX hDx hbx hbxs
          rw [hw9]
          clear hw9
      rotate_left
      focus
        have d0 : decide ((0 : Int) < (n0 : Int)) = true := by simp; omega
        obtain ⟨m, hm2, hml⟩ := modN aid h0 hn08
        obtain ⟨r, hr⟩ : ∃ r, T[m]? = some r := ⟨_, List.getElem?_eq_getElem (by have := hn0'.out; omega)⟩
        obtain ⟨gL, rfl⟩ : ∃ gL, A4 = some ⟨gL, 0, none⟩ := by
          rcases hR2'.out.2 with ⟨e1, e2⟩ | ⟨g', cap, cur, e1, _⟩
          · have := hn0'.out; omega
          · injection e1 with e1
            exact ⟨g', e1⟩
        have hown : w2.ownsRow (wr.alloc (.cells #[.int .i64 ak, .int .i64 aid, .int .i64 asq, .int .i64 anow, .string ax] 31)).heap.size 42 4 (.slice (some ⟨gL, 0, none⟩) n0 k4) n0 (rc eS T) := by have h := hR2'.out; unfold RsOwn at h; rw [hn0'.out] at h; exact h
        have hxl := hown.1
        obtain ⟨x0, y0⟩ : ∃ z, w2.cell? ⟨gL, m * 4, none⟩ = some z := ⟨_, by rw [hown.cellAt _ (by omega)]; exact List.getElem?_eq_getElem (by omega)⟩
        obtain ⟨x1, y1⟩ : ∃ z, w2.cell? ⟨gL, m * 4 + 1, none⟩ = some z := ⟨_, by rw [hown.cellAt _ (by omega)]; exact List.getElem?_eq_getElem (by omega)⟩
        obtain ⟨x2, y2⟩ : ∃ z, w2.cell? ⟨gL, m * 4 + 2, none⟩ = some z := ⟨_, by rw [hown.cellAt _ (by omega)]; exact List.getElem?_eq_getElem (by omega)⟩
        obtain ⟨x3, y3⟩ : ∃ z, w2.cell? ⟨gL, m * 4 + 3, none⟩ = some z := ⟨_, by rw [hown.cellAt _ (by omega)]; exact List.getElem?_eq_getElem (by omega)⟩
        have f0 := hown.frozenAt (m * 4)
        have f1 := hown.frozenAt (m * 4 + 1)
        have f2 := hown.frozenAt (m * 4 + 2)
        have f3 := hown.frozenAt (m * 4 + 3)
        have hst := RsOwn.stored4 (em := eS) (e := 42) (t := T) hR2'.out (by first | exact hn0'.out | rfl) hr ⟨aid, asq, anow, ax⟩
        have hFg := (hfree'.out gL rfl).1
        have hgb : w.heap.size ≤ gL := by have h1 := (hown.lt gL rfl).1; have h2 := hbA'.out.size; omega
        have hD4 := (((hD2'.out.setCell hFg (m * 4) (.int .i64 aid)).setCell hFg (m * 4 + 1) (.int .i64 asq)).setCell hFg (m * 4 + 2) (.int .i64 anow)).setCell hFg (m * 4 + 3) (.string ax)
        have hb4 := (((hbw2'.out.setCell (p := ⟨gL, m * 4, none⟩) hgb (.int .i64 aid)).setCell (p := ⟨gL, m * 4 + 1, none⟩) hgb (.int .i64 asq)).setCell (p := ⟨gL, m * 4 + 2, none⟩) hgb (.int .i64 anow)).setCell (p := ⟨gL, m * 4 + 3, none⟩) hgb (.string ax)
        obtain ⟨w4, hw4⟩ : ∃ w4, (((w2.setCell ⟨gL, m * 4, none⟩ (.int .i64 aid)).setCell ⟨gL, m * 4 + 1, none⟩ (.int .i64 asq)).setCell ⟨gL, m * 4 + 2, none⟩ (.int .i64 anow)).setCell ⟨gL, m * 4 + 3, none⟩ (.string ax) = w4 := ⟨_, rfl⟩
        have hsz4 : w4.heap.size = w2.heap.size := by rw [← hw4]; simp
        rw [hw4] at hD4 hb4
        have hst : RsOwn eS 42 (wr.alloc (.cells #[.int .i64 ak, .int .i64 aid, .int .i64 asq, .int .i64 anow, .string ax] 31)).heap.size (.slice (some ⟨gL, 0, none⟩) n0 k4) (T.set m ⟨aid, asq, anow, ax⟩) w4 := by rw [← hw4]; exact hst
        obtain ⟨l4, hl4⟩ : ∃ l4, T.set m ⟨aid, asq, anow, ax⟩ = l4 := ⟨_, rfl⟩
        have hL4 : Hid (l4.length = n0) := Lib.hid (by rw [← hl4, List.length_set]; exact hn0'.out)
        rw [hl4] at hst
        have hR4 : Hid (RsOwn eS 42 0 (.slice (some ⟨gL, 0, none⟩) n0 k4) l4 w4) := Lib.hid (ownsRow_less hst (Nat.zero_le _))
        have hD4 := Lib.hid hD4
        have hb4 := Lib.hid hb4
        have hb4s : Hid (b ≤ w4.heap.size) := Lib.hid (by rw [hsz4]; exact hb2s'.out)
        have hf4 : Hid (∀ k, (Value.slice (some ⟨gL, 0, none⟩) n0 k4).ownBlock = some k → Free b (b + 1) u ur k ∧ k < w4.heap.size) := Lib.hid (by rw [hsz4]; exact hfree'.out)
        have p7 : IntKind.u64.wrap (n0 : Int) = (n0 : Int) := wrapU_small hn08
        clear hst hown hxl hr hFg hsz4 hl4 hw0s
        have hlo4 : Hid (∀ k, (Value.slice (some ⟨gL, 0, none⟩) n0 k4).ownBlock = some k → w.heap.size ≤ k) := Lib.hid (fun k hk => Nat.le_trans hbA'.out.size (hR2'.out.lt k hk).1)
        go_wp2_with fail
        obtain ⟨T9, hT9⟩ : ∃ T9, (setT T l4).1 = T9 := ⟨_, rfl⟩
        obtain ⟨q, hq⟩ : ∃ q, (setT T l4).2 = q := ⟨_, rfl⟩
        have h98 : T9.length ≤ 8 := by rw [← hT9]; exact set_len hT8
        have hnd9 := Lib.hid (show (T9.map Ro.id).Nodup by rw [← hT9]; exact set_ids hnd'.out)
        have hlen4 : l4.length ≤ 1099511627776 := by rw [hL4.out]; omega
        have hat4 : RsAt eS w4 (.slice (some ⟨gL, 0, none⟩) n0 k4) l4 := hR4.out.at
        have cO := setS b b u _ T l4 w4 hD4.out.l hb4s.out hat4 hlen4
        have cR : ∀ W, TabR b (b + 1) ur T W → b ≤ W.heap.size → RsAt eS W (.slice (some ⟨gL, 0, none⟩) n0 k4) l4 → Calls Try.prog 16 #[.pointer (some ⟨b + 1, 0, none⟩), .slice (some ⟨gL, 0, none⟩) n0 k4] W fun e w' => e = .returned (.bool q) ∧ After eS 29 42 b (b + 1) ur T9 W w' := fun W h1 h2 h3 => by
          rw [← hT9, ← hq]
          exact refSet_any b (b + 1) ur _ T l4 W h1 h2 h3 hlen4
        rw [hT9, hq] at cO
        have cR' := Lib.hid cR
        clear hT9 hq cR hat4
        go_at_call 15
        refine cO.mono ?_
        rintro e w5 ⟨rfl, hA5⟩
        obtain ⟨u9, hD5, hfr5, hsz5, hbl5⟩ := hD4.out.left hA5
        have hR5 : RsOwn eS 42 0 (.slice (some ⟨gL, 0, none⟩) n0 k4) l4 w5 := ownsRow_left hR4.out fun g hg => (hfr5 g (hf4.out g hg).2 (hf4.out g hg).1).2
        have cB := cR'.out w5 hD5.r (Nat.le_trans hb4s.out hsz5) hR5.at
        have hf5 := Lib.hid (show ∀ k, (Value.slice (some ⟨gL, 0, none⟩) n0 k4).ownBlock = some k → Free b (b + 1) u9 ur k ∧ k < w5.heap.size from fun k hk => ⟨(hfr5 k (hf4.out k hk).2 (hf4.out k hk).1).1, Nat.lt_of_lt_of_le (hf4.out k hk).2 hsz5⟩)
        have hb5 := Lib.hid (hbl5 w.heap.size w hlow'.out hb4.out.size hb4.out)
        have hb5s := Lib.hid (Nat.le_trans hb4s.out hsz5)
        have hD5 := Lib.hid hD5
        have hR5 := Lib.hid hR5
        clear cO hA5 hfr5 hsz5 hbl5 cR'
        go_wp2_with fail
        go_at_call 16
        refine cB.mono ?_
        rintro e w6 ⟨rfl, hA6⟩
        obtain ⟨ur9, hD6, hfr6, hsz6, hbl6⟩ := hD5.out.right hA6
        have hR6 : Hid (∃ l : Tb ByteArray, l.length = n0 ∧ RsOwn eS 42 0 (.slice (some ⟨gL, 0, none⟩) n0 k4) l w6) := Lib.hid ⟨l4, hL4.out, ownsRow_left hR5.out fun g hg => (hfr6 g (hf5.out g hg).2 (hf5.out g hg).1).2⟩
        have hf6 := Lib.hid (show ∀ k, (Value.slice (some ⟨gL, 0, none⟩) n0 k4).ownBlock = some k → Free b (b + 1) u9 ur9 k ∧ w.heap.size ≤ k from fun k hk => ⟨(hfr6 k (hf5.out k hk).2 (hf5.out k hk).1).1, hlo4.out k hk⟩)
        have hb6 := Lib.hid (hbl6 w.heap.size w hlow'.out hb5.out.size hb5.out)
        have hb6s := Lib.hid (Nat.le_trans hb5s.out hsz6)
        have hD6 := Lib.hid hD6
        have d : (q != q) = false := by simp
        clear cB hA6 hfr6 hsz6 hbl6 hD5 hR5 hf5 hb5 hb5s hf4 hb4 hb4s hD4 hR4
        go_wp2
        go_loopw [65] (fun s65 wx => ∃ k : Nat, s65 = .int .i64 (k : Int) ∧ k ≤ n0 ∧ Hid (∃ l : Tb ByteArray, l.length = n0 ∧ RsOwn eS 42 0 (.slice (some ⟨gL, 0, none⟩) n0 k4) l wx) ∧ Hid (Duo b b (b + 1) u9 ur9 T9 T9 wx) ∧ Hid (Below w.heap.size w wx) ∧ Hid (b ≤ wx.heap.size)) (fun s65 wx => n0 - (RowKit.intOf s65).toNat)
        case atStart => exact ⟨0, rfl, Nat.zero_le _, hR6, hD6, hb6, hb6s⟩
        case' round =>
          obtain ⟨k, rfl, hk, hX, hDx, hbx, hbxs⟩ := hrel
          by_cases hltk : k < n0
          · obtain ⟨l6, hl6, hown⟩ := hX.out
            obtain ⟨hFr, hlo⟩ := hf6.out gL rfl
            obtain ⟨r6, hr6⟩ : ∃ r, l6[k]? = some r := ⟨_, List.getElem?_eq_getElem (by omega)⟩
            obtain ⟨k0, k1, k2, k3, f0, o1⟩ := RsOwn.storedId hown hl6 hr6 99
            have hfin := Lib.hid (And.intro o1 (And.intro (hDx.out.setCell hFr (k * 4) (.int .i64 99)) (And.intro (hbx.out.setCell (p := ⟨gL, k * 4, none⟩) hlo (.int .i64 99)) (show b ≤ (wr.setCell ⟨gL, k * 4, none⟩ (.int .i64 99)).heap.size by simp; exact hbxs.out))))
            have hl6' := Lib.hid hl6
            obtain ⟨ri, rl, ru, rx⟩ := r6
            simp only at k0 k1 k2 k3
            clear hX hown o1 hDx hbx hbxs hl6 hr6
            go_wp2
            go_roundw
            case rel => exact ⟨k + 1, by go_num, by omega, Lib.hid ⟨_, (by rw [List.length_set]; exact hl6'.out), hfin.out.1⟩, Lib.hid hfin.out.2.1, Lib.hid hfin.out.2.2.1, Lib.hid hfin.out.2.2.2⟩
            case measure => simp [RowKit.intOf]; omega
          obtain ⟨w9, hw9⟩ : ∃ w9, wr = w9 := ⟨_, rfl⟩
          have hD9 : Hid (Duo b b (b + 1) u9 ur9 T9 T9 w9) := hw9 ▸ hDx
          have hb9 : Hid (Below w.heap.size w w9) := hw9 ▸ hbx
          have hb99 : Hid (b ≤ w9.heap.size) := hw9 ▸ hbxs
          clear hX hDx hbx hbxs
          rw [hw9]
          clear hw9
    rotate_left 2
    focus
      obtain ⟨T9, hT9⟩ : ∃ T9, (openT nS T anow).1 = T9 := ⟨_, rfl⟩
      obtain ⟨q, hq⟩ : ∃ q, (openT nS T anow).2 = q := ⟨_, rfl⟩
      have h98 : T9.length ≤ 8 := by rw [← hT9]; exact open_len nS hT8 anow
      have hnd9 := Lib.hid (show (T9.map Ro.id).Nodup by rw [← hT9]; exact open_ids nS hnd'.out anow)
      have hdr : Below w0.heap.size w0 w0.drew := Below.drew (Below.refl _ _)
      have hDd := hDA'.out.kept hdr
      have hgad : w0.drew.heap[wr.heap.size]? = _ := hgaA'.out
      have cO := openS b b u T anow w0.drew hDd.l hbB'.out hT8 hnd'.out
      rw [hT9, hq] at cO
      have cR : ∀ W, TabR b (b + 1) ur T W → b ≤ W.heap.size → Calls Try.prog 9 #[.pointer (some ⟨b + 1, 0, none⟩), .int .i64 anow] W fun e w' => e = .returned (.bool q) ∧ After eS 29 42 b (b + 1) ur T9 W w' := fun W h1 h2 => by
        rw [← hT9, ← hq]
        exact refOpen_any b (b + 1) ur T anow W h1 h2 (by omega)
      obtain ⟨_, r1, r2, r3, r4⟩ := hcl'.out w0.drew hgad
      have hDd' := Lib.hid hDd
      have cR' := Lib.hid cR
      clear hT9 hq hDd cR
      subst hw0
      go_wp2_with fail
      go_region_held3 (fun W => W.cell? ⟨wr.heap.size, 3, none⟩ = some (.int .i64 anow))
        (first | exact q3 | exact r3 | exact z3 | exact y3)
        (first
          | (go_at_call 8; refine cO.mono ?_; rintro e w3 ⟨rfl, hA3⟩; obtain ⟨u9, hD3, hfr3, hsz3, hbl3⟩ := hDd'.out.left hA3; obtain ⟨hF3, hg3⟩ := hfr3 wr.heap.size hw0s hFA'.out; have hga3 := hg3.trans hgad; obtain ⟨_, _, _, z3, _⟩ := hcl'.out w3 hga3)
          | (go_at_call 9; refine (cR'.out w3 hD3.r (Nat.le_trans hbB'.out hsz3)).mono ?_; rintro e w9 ⟨rfl, hA9⟩; obtain ⟨ur9, hD9, hfr9, hsz9, hbl9⟩ := hD3.right hA9; obtain ⟨hF9, hg9⟩ := hfr9 wr.heap.size (Nat.lt_of_lt_of_le hw0s hsz3) hF3; have hga9 := hg9.trans hga3; obtain ⟨_, _, _, y3, _⟩ := hcl'.out w9 hga9))
      have hb9 := Lib.hid (hbl9 w.heap.size w hlowb (Nat.le_trans hbA'.out.size hsz3) (hbl3 w.heap.size w hlowb hbA'.out.size (hbA'.out.trans ((Below.drew (Below.refl _ _)).mono hbA'.out.size))))
      have hb99 := Lib.hid (show b ≤ w9.heap.size from Nat.le_trans hbB'.out (Nat.le_trans hsz3 hsz9))
      have hD9 := Lib.hid hD9
      clear cO hA3 hD3 hfr3 hbl3 hA9 hfr9 hbl9 hF3 hg3 hga3 z3 hF9 hg9 hga9 y3 r1 r2 r3 r4 q1 q2 q3 q4 hgad hdr c0 c1 c2 c3 c4 hw0s hm hsz3 hsz9
      have d : (q != q) = false := by simp
      try rw [d]
    rotate_left
    focus
      obtain ⟨u9, hu9⟩ : ∃ u9, u = u9 := ⟨_, rfl⟩
      obtain ⟨ur9, hur9⟩ : ∃ u9, ur = u9 := ⟨_, rfl⟩
      obtain ⟨T9, hT9⟩ : ∃ T9, T = T9 := ⟨_, rfl⟩
      have h98 : T9.length ≤ 8 := by rw [← hT9]; exact hT8
      have hnd9 := Lib.hid (show (T9.map Ro.id).Nodup by rw [← hT9]; exact hnd'.out)
      have cA := askS b b u T aid asq w0 hDA'.out.l hbB'.out hT8
      have cR : ∀ W, Below w0.heap.size w0 W → Calls Try.prog 11 #[.pointer (some ⟨b + 1, 0, none⟩), .int .i64 aid, .int .i64 asq] W fun e w' => e = askE eS nS T aid asq ∧ Below W.heap.size W w' := fun W h1 =>
        refAsk_any (b + 1) ur T aid asq W (hDA'.out.kept h1).r.blk (hDA'.out.kept h1).r.own.at (by omega)
      unfold askE at cA cR
      generalize askT nS T aid asq = p at cA cR
      obtain ⟨p, y⟩ := p
      simp only at cA cR
      have cR' := Lib.hid cR
      have d1 : ((p : Int) != (p : Int)) = false := by simp
      have d2 : (y.toList != y.toList) = false := by simp
      clear cR
      subst hw0
      go_wp2_with fail
      go_at_call 10
      refine cA.mono ?_
      rintro e w3 ⟨rfl, hb3⟩
      have cB := cR'.out w3 hb3
      have hga3 := (hb3.block wr.heap.size hw0s).trans hgaA'.out
      obtain ⟨_, z1, z2, _, _⟩ := hcl'.out w3 hga3
      have hb3' := Lib.hid hb3
      clear cA hb3 hga3
      go_wp2_with fail
      go_at_call 11
      refine cB.mono ?_
      rintro e w9 ⟨rfl, hb9⟩
      have hbz := below_then hb3'.out hb9
      have hD9 : Hid (Duo b b (b + 1) u9 ur9 T9 T9 w9) := Lib.hid (by rw [← hu9, ← hur9, ← hT9]; exact hDA'.out.kept hbz)
      have hb99 := Lib.hid (Nat.le_trans hbB'.out hbz.size)
      have hb9 := Lib.hid (hbA'.out.trans (hbz.mono hbA'.out.size))
      clear cB cR' hbz z1 z2 q1 q2 q3 q4 c0 c1 c2 c3 c4 hw0s hm
    rotate_left
    focus
      obtain ⟨T9, hT9⟩ : ∃ T9, (doneT nS T aid asq anow ax).1 = T9 := ⟨_, rfl⟩
      obtain ⟨q, hq⟩ : ∃ q, (doneT nS T aid asq anow ax).2 = q := ⟨_, rfl⟩
      have h98 : T9.length ≤ 8 := by rw [← hT9, done_len]; exact hT8
      have hnd9 := Lib.hid (show (T9.map Ro.id).Nodup by rw [← hT9, done_ids]; exact hnd'.out)
      have hdr : Below w0.heap.size w0 w0.drew := Below.drew (Below.refl _ _)
      have hDd := hDA'.out.kept hdr
      have hgad : w0.drew.heap[wr.heap.size]? = _ := hgaA'.out
      have cO := doneS b b u T aid asq anow ax w0.drew hDd.l hbB'.out hT8 hnd'.out
      rw [hT9, hq] at cO
      have cR : ∀ W, TabR b (b + 1) ur T W → b ≤ W.heap.size → Calls Try.prog 13 #[.pointer (some ⟨b + 1, 0, none⟩), .int .i64 aid, .int .i64 asq, .int .i64 anow, .string ax] W fun e w' => e = .returned (.bool q) ∧ After eS 29 42 b (b + 1) ur T9 W w' := fun W h1 h2 => by
        rw [← hT9, ← hq]
        exact refDone_any b (b + 1) ur T aid asq anow ax W h1 h2 (by omega)
      obtain ⟨_, r1, r2, r3, r4⟩ := hcl'.out w0.drew hgad
      have hDd' := Lib.hid hDd
      have cR' := Lib.hid cR
      clear hT9 hq hDd cR
      subst hw0
      go_wp2_with fail
      go_region_held3 (fun W => W.cell? ⟨wr.heap.size, 1, none⟩ = some (.int .i64 aid) ∧ W.cell? ⟨wr.heap.size, 2, none⟩ = some (.int .i64 asq) ∧ W.cell? ⟨wr.heap.size, 3, none⟩ = some (.int .i64 anow) ∧ W.cell? ⟨wr.heap.size, 4, none⟩ = some (.string ax))
        (first | exact ⟨q1, q2, q3, q4⟩ | exact ⟨r1, r2, r3, r4⟩ | exact ⟨z1, z2, z3, z4⟩ | exact ⟨y1, y2, y3, y4⟩)
        (first
          | (go_at_call 12; refine cO.mono ?_; rintro e w3 ⟨rfl, hA3⟩; obtain ⟨u9, hD3, hfr3, hsz3, hbl3⟩ := hDd'.out.left hA3; obtain ⟨hF3, hg3⟩ := hfr3 wr.heap.size hw0s hFA'.out; have hga3 := hg3.trans hgad; obtain ⟨_, z1, z2, z3, z4⟩ := hcl'.out w3 hga3)
          | (go_at_call 13; refine (cR'.out w3 hD3.r (Nat.le_trans hbB'.out hsz3)).mono ?_; rintro e w9 ⟨rfl, hA9⟩; obtain ⟨ur9, hD9, hfr9, hsz9, hbl9⟩ := hD3.right hA9; obtain ⟨hF9, hg9⟩ := hfr9 wr.heap.size (Nat.lt_of_lt_of_le hw0s hsz3) hF3; have hga9 := hg9.trans hga3; obtain ⟨_, y1, y2, y3, y4⟩ := hcl'.out w9 hga9))
      have hb9 := Lib.hid (hbl9 w.heap.size w hlowb (Nat.le_trans hbA'.out.size hsz3) (hbl3 w.heap.size w hlowb hbA'.out.size (hbA'.out.trans ((Below.drew (Below.refl _ _)).mono hbA'.out.size))))
      have hb99 := Lib.hid (show b ≤ w9.heap.size from Nat.le_trans hbB'.out (Nat.le_trans hsz3 hsz9))
      have hD9 := Lib.hid hD9
      clear cO hA3 hD3 hfr3 hbl3 hA9 hfr9 hbl9 hF3 hg3 hga3 z1 z2 z3 z4 hF9 hg9 hga9 y1 y2 y3 y4 r1 r2 r3 r4 q1 q2 q3 q4 hgad hdr c0 c1 c2 c3 c4 hw0s hm hsz3 hsz9
    rotate_left
    all_goals
      have cR := rowsS b b u9 T9 w9 hD9.out.l hb99.out h98
      go_wp2_with fail
      go_at_call 14
      refine cR.mono ?_
      rintro e wA ⟨⟨uA, rfl, hRA⟩, hbA⟩
      have hDA := hD9.out.kept hbA
      obtain ⟨aA, cA, huA⟩ := ownsRow_form hRA
      obtain ⟨aR, cR2, huR⟩ := ownsRow_form hDA.r.own
      have hcx : wA.cell? ⟨b + 1, 0, none⟩ = some ur9 := by rw [Lib.cell_of_heap hDA.r.blk]; rfl
      have cS := refSame_yes uA ur9 T9 wA hRA.at hDA.r.own.at (by omega)
      obtain ⟨nA, hnA⟩ : ∃ nA, T9.length = nA := ⟨_, rfl⟩
      have hrowA : wA.ownsRow w9.heap.size 42 4 uA nA (rc eS T9) := by rw [← hnA]; exact hRA
      rw [hnA] at huA huR h98
      subst huA
      have huR' := Lib.hid huR
      rw [huR] at cS hcx
      have hrowA' := Lib.hid hrowA
      have hbA' := Lib.hid hbA
      clear cR hRA hDA hrowA hbA huR
      go_wp2_with fail
      go_at_call 17
      refine cS.mono ?_
      rintro e wB ⟨rfl, m, rfl⟩
      clear cS hcx
      go_wp2
      go_loopw [142] (fun s142 wx => ∃ k : Nat, s142 = .int .i64 (k : Int) ∧ k ≤ nA ∧ Hid (∃ xs, wx.ownsRow w9.heap.size 42 4 (.slice aA nA cA) nA xs) ∧ Below w9.heap.size w9 wx) (fun s142 wx => nA - (RowKit.intOf s142).toNat)
      case atStart => exact ⟨0, rfl, Nat.zero_le _, Lib.hid ⟨_, hrowA'.out⟩, below_drewN _ hbA'.out⟩
      case round =>
        obtain ⟨k, rfl, hk, hX, hbx⟩ := hrel
        by_cases hltk : k < nA
        · obtain ⟨xs, hown⟩ := hX.out
          have hxl := hown.1
          obtain ⟨gA, rfl⟩ : ∃ gA, aA = some ⟨gA, 0, none⟩ := by
            rcases hown.2 with ⟨e1, e2⟩ | ⟨g', cap, cur, e1, _⟩
            · omega
            · injection e1 with e1
              exact ⟨g', e1⟩
          have hgA : w9.heap.size ≤ gA := (hown.lt gA rfl).1
          obtain ⟨z0, k0⟩ : ∃ z, wr.cell? ⟨gA, k * 4, none⟩ = some z := ⟨_, by rw [hown.cellAt _ (by omega)]; exact List.getElem?_eq_getElem (by omega)⟩
          obtain ⟨z1, k1⟩ : ∃ z, wr.cell? ⟨gA, k * 4 + 1, none⟩ = some z := ⟨_, by rw [hown.cellAt _ (by omega)]; exact List.getElem?_eq_getElem (by omega)⟩
          obtain ⟨z2, k2⟩ : ∃ z, wr.cell? ⟨gA, k * 4 + 2, none⟩ = some z := ⟨_, by rw [hown.cellAt _ (by omega)]; exact List.getElem?_eq_getElem (by omega)⟩
          obtain ⟨z3, k3⟩ : ∃ z, wr.cell? ⟨gA, k * 4 + 3, none⟩ = some z := ⟨_, by rw [hown.cellAt _ (by omega)]; exact List.getElem?_eq_getElem (by omega)⟩
          have f0 := hown.frozenAt (k * 4)
          have f1 := hown.frozenAt (k * 4 + 1)
          have f2 := hown.frozenAt (k * 4 + 2)
          have f3 := hown.frozenAt (k * 4 + 3)
          obtain ⟨o1, _⟩ := hown.stored (k * 4) (.int .i64 0)
          obtain ⟨o2, _⟩ := o1.stored (k * 4 + 1) (.int .i64 0)
          obtain ⟨o3, _⟩ := o2.stored (k * 4 + 2) (.int .i64 0)
          obtain ⟨o4, _⟩ := o3.stored (k * 4 + 3) (.string ⟨#[]⟩)
          have hb4 := (((hbx.setCell (p := ⟨gA, k * 4, none⟩) hgA (.int .i64 0)).setCell (p := ⟨gA, k * 4 + 1, none⟩) hgA (.int .i64 0)).setCell (p := ⟨gA, k * 4 + 2, none⟩) hgA (.int .i64 0)).setCell (p := ⟨gA, k * 4 + 3, none⟩) hgA (.string ⟨#[]⟩)
          have hfin := Lib.hid (And.intro o4 hb4)
          clear hX hown o1 o2 o3 o4 hb4 hbx hrowA' hxl
          go_wp2
          go_roundw
          case rel => exact ⟨k + 1, by go_num, by omega, Lib.hid ⟨_, hfin.out.1⟩, hfin.out.2⟩
          case measure => simp [RowKit.intOf]; omega
        · have hX2 := Lib.hid (hD9.out.kept hbx)
          have hb2 := Lib.hid (hb9.out.trans (hbx.mono hb9.out.size))
          clear hX hbx
          go_wp2
          go_roundw
          case rel => exact ⟨i + 1, T9, u9, ur9, by go_num, by omega, by omega, hX2.out, by omega, hnd9.out, hb2.out⟩
          case measure => simp [RowKit.intOf]; omega
end Go.Proofs.Ytnmcgmfpalgpnaa.Se
