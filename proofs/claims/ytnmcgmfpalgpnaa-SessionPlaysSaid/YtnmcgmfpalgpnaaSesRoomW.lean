/-
  THE WALK OF calepinlaw13.SessionRoom, over what the program's calls must keep.
-/
import Derived.Test.YtnmcgmfpalgpnaaSesLateW
import Derived.IntWalk
set_option linter.unusedVariables false
namespace Go.Proofs.Ytnmcgmfpalgpnaa.Se
open Go.Lib Go.RowKit

abbrev TabS := Tab eS 26 42
theorem mod8 (z : Int) : ∃ r : Nat, wrap64 ((IntKind.u64.wrap z).tmod 8) = (r : Int) ∧ r < 8 := by
  have h0 : 0 ≤ IntKind.u64.wrap z := by
    unfold IntKind.wrap
    simp only [IntKind.bits, IntKind.signed]
    simp
    omega
  have h1 := Int.emod_nonneg (IntKind.u64.wrap z) (b := 8) (by omega)
  have h2 := Int.emod_lt_of_pos (IntKind.u64.wrap z) (b := 8) (by omega)
  refine ⟨((IntKind.u64.wrap z) % 8).toNat, ?_, by omega⟩
  rw [Int.tmod_eq_emod_of_nonneg h0, Int.toNat_of_nonneg h1]
  exact IntWalk.wrap64_in _ ⟨by omega, by omega⟩
/-- nine numbers in block c -/
def Nine (w : World) (c : Nat) (last : Int → Int) : Prop := ∃ cs : Array Value, w.heap[c]? = some (.cells cs 56 (0, 0)) ∧ cs.size = 9 ∧ ∀ k : Nat, k < 9 → cs[k]? = some (.int .i64 (last (k : Int)))
theorem Nine.lt {w : World} {c : Nat} {last : Int → Int} (h : Nine w c last) : c < w.heap.size := by
  obtain ⟨cs, h, _⟩ := h
  exact (Array.getElem?_eq_some_iff.1 h).1
theorem Nine.cell {w : World} {c : Nat} {last : Int → Int} (h : Nine w c last) {k : Nat} (hk : k < 9) : w.cell? ⟨c, k, none⟩ = some (.int .i64 (last (k : Int))) ∧ w.frozen? ⟨c, k, none⟩ = false := by
  obtain ⟨cs, h1, h2, h3⟩ := h
  exact ⟨by rw [Lib.cell_of_heap h1]; exact h3 k hk, Lib.frozen_of_heap h1 k⟩
theorem Nine.kept {w w' : World} {c : Nat} {last : Int → Int} (h : Nine w c last) (he : w'.heap[c]? = w.heap[c]?) : Nine w' c last := by
  obtain ⟨cs, h1, h2⟩ := h
  exact ⟨cs, by rw [he]; exact h1, h2⟩
theorem Nine.stored {w : World} {c : Nat} {last : Int → Int} (h : Nine w c last) {k : Nat} (hk : k < 9) (u : Int) : Nine (w.setCell ⟨c, k, none⟩ (.int .i64 u)) c fun i => if i = (k : Int) then u else last i := by
  obtain ⟨cs, h1, h2, h3⟩ := h
  refine ⟨cs.setIfInBounds k (.int .i64 u), heap_setCell_same w c k cs _ _ h1, by simpa using h2, fun j hj => ?_⟩
  rw [Array.getElem?_setIfInBounds]
  by_cases e : k = j
  · subst e
    rw [if_pos rfl, if_pos (by omega)]
    exact congrArg (fun x => some (Value.int .i64 x)) (if_pos rfl).symm
  · rw [if_neg e, h3 j hj]
    exact congrArg (fun x => some (Value.int .i64 x)) (if_neg (by omega)).symm
theorem Tab.otherCell {α : Type} {em : α → Value} {ty e : TypeId} {B b : Nat} {v : Value} {t : Tb α} {w : World} (h : Tab em ty e B b v t w) {c : Nat} (h1 : b ≠ c) (h2 : v.ownBlock ≠ some c) (k : Nat) (u : Value) : Tab em ty e B b v t (w.setCell ⟨c, k, none⟩ u) :=
  ⟨h.low, by rw [Below.heap_setCell w _ u b h1]; exact h.blk, ownsRow_left h.own fun g hg => Below.heap_setCell w ⟨c, k, none⟩ u g (fun e => h2 (by rw [hg, e])), h.apart⟩
theorem room_len {now : Int} {α : Type} {t : Tb α} {last : Int → Int} (h : RoomInv now t last) : t.length = 8 := by
  have := congrArg List.length h.1
  rw [List.length_map] at this
  exact this
theorem room_nodup {now : Int} {α : Type} {t : Tb α} {last : Int → Int} (h : RoomInv now t last) : (t.map Ro.id).Nodup := by rw [h.1]; decide
theorem firsts_len {α : Type} (z : α) (j : Nat) : (firsts z j).length = j := by simp [firsts]
theorem firsts_nodup {α : Type} (z : α) (j : Nat) : ((firsts z j).map Ro.id).Nodup := by
  unfold firsts
  rw [List.map_map]
  exact List.nodup_range.map (f := fun (i : Nat) => (i : Int) + 1) (fun a b h => by simp only [ne_eq]; omega)

set_option maxHeartbeats 16000000 in
set_option maxRecDepth 100000 in
theorem room_walk (hO : OpenS) (hA : AskS) (hD : DoneS) (hR : RowsS) (v : Value) (zs : List Int) (w : World) (hv : ZsAt w v zs) :
    Calls Try.prog 5 #[v] w fun e w' => e = .returned (.bool true) ∧ Below w.heap.size w w' := by
  have cF := first_any hO hA hD w
  obtain ⟨A, g, off, c, rfl, h1, h3, h4⟩ := hv
  obtain ⟨n, hn⟩ : ∃ n, zs.length = n := ⟨_, rfl⟩
  rw [hn] at h1 h3 ⊢
  have hn' := Lib.hid hn
  have h3' := Lib.hid h3
  have h4' := Lib.hid h4
  have hO1 := Lib.hid hO
  have hA1 := Lib.hid hA
  have hD1 := Lib.hid hD
  have hR1 := Lib.hid hR
  clear hn h3 h4 hO hA hD hR
  go_enter Try.func5, Try.ntmps5
  go_wp2_with fail
  go_at_call 7
  refine cF.mono ?_
  rintro e w1 ⟨rfl, hb1⟩
  clear cF
  have hT0 : TabS w.heap.size w1.heap.size (.slice none 0 0) [] (w1.alloc (.cells #[.slice none 0 0] 26)) := (fresh_tab eS _ _ w1).less hb1.size
  have hb0 : Below w.heap.size w (w1.alloc (.cells #[.slice none 0 0] 26)) := hb1.alloc hb1.size _
  have hT0' := Lib.hid hT0
  have hb0' := Lib.hid hb0
  obtain ⟨b, hbe⟩ : ∃ b, w1.heap.size = b := ⟨_, rfl⟩
  rw [hbe] at hT0'
  clear hT0 hb0 hb1
  go_wp2
  go_loopw [4, 16] (fun s4 s16 wr => ∃ (j : Nat) (u : Value), s4 = .int .i64 (j : Int) ∧ s16 = .int .i64 (j : Int) ∧ j ≤ 8 ∧ TabS w.heap.size b u (firsts nS j) wr ∧ Below w.heap.size w wr) (fun s4 s16 wr => 8 - (RowKit.intOf s16).toNat)
  case atStart => exact ⟨0, _, rfl, rfl, Nat.zero_le _, hT0'.out, hb0'.out⟩
  case round =>
    obtain ⟨j, u, rfl, rfl, hj, hT, hbw⟩ := hrel
    have hT' := Lib.hid hT
    have hbw' := Lib.hid hbw
    clear hT hbw
    by_cases hlt : j < 8
    · have cO := hO1.out _ _ _ _ ((j : Int) + 1) _ hT'.out hbw'.out.size (by rw [firsts_len]; omega) (firsts_nodup nS j)
      rw [firsts_open nS hlt] at cO
      go_wp2_with fail
      go_at_call 8
      refine cO.mono ?_
      rintro e w2 ⟨rfl, hA2⟩
      have hb2 := Lib.hid (hA2.below hT'.out hbw'.out hbw'.out.size)
      obtain ⟨u2, hT2, _, _⟩ := hA2
      have hT2' := Lib.hid hT2
      clear cO hT2
      go_wp2
      exact ⟨⟨j + 1, u2, by go_num, by go_num, by omega, hT2'.out, hb2.out⟩, by simp [RowKit.intOf]; omega⟩
    · have e8 : j = 8 := by omega
      rw [show (j : Int) = 8 by omega]
      rw [e8] at hT'
      clear e8
      have hc : Nine (wr.alloc (.cells #[.int .i64 0, .int .i64 1, .int .i64 2, .int .i64 3, .int .i64 4, .int .i64 5, .int .i64 6, .int .i64 7, .int .i64 8] 56)) wr.heap.size (fun k => k) :=
        ⟨_, heap_alloc_new _ _, rfl, fun k hk => by
          rcases (by omega : k = 0 ∨ k = 1 ∨ k = 2 ∨ k = 3 ∨ k = 4 ∨ k = 5 ∨ k = 6 ∨ k = 7 ∨ k = 8) with rfl | rfl | rfl | rfl | rfl | rfl | rfl | rfl | rfl <;> rfl⟩
      have hbA : Below w.heap.size w (wr.alloc (.cells #[.int .i64 0, .int .i64 1, .int .i64 2, .int .i64 3, .int .i64 4, .int .i64 5, .int .i64 6, .int .i64 7, .int .i64 8] 56)) := hbw'.out.alloc hbw'.out.size _
      have hTA : TabS w.heap.size b u (firsts nS 8) (wr.alloc (.cells #[.int .i64 0, .int .i64 1, .int .i64 2, .int .i64 3, .int .i64 4, .int .i64 5, .int .i64 6, .int .i64 7, .int .i64 8] 56)) := hT'.out.kept ((Below.refl _ _).alloc (Nat.le_refl _) _)
      have hbc : b ≠ wr.heap.size := by have := hT'.out.lt; omega
      have huc : u.ownBlock ≠ some wr.heap.size := fun e => by have := (hT'.out.ownLt _ e).2; omega
      obtain ⟨c9, hc9⟩ : ∃ c9, wr.heap.size = c9 := ⟨_, rfl⟩
      have hbl0 := Lib.hid (show w.heap.size ≤ c9 by rw [← hc9]; exact hbw'.out.size)
      have hbA' := Lib.hid hbA
      have hTA' := Lib.hid hTA
      rw [hc9] at hc hbc huc
      have hcA := Lib.hid hc
      have hbcA := Lib.hid hbc
      have hucA := Lib.hid huc
      clear hbA hTA hc hbc huc hlt hj
      go_wp2
      go_loopw [4, 26] (fun s4 s26 wx => ∃ (i : Nat) (now : Int) (last : Int → Int) (t : Tb ByteArray) (u : Value), s4 = .int .i64 now ∧ s26 = .int .i64 (i : Int) ∧ i ≤ n ∧ now ≤ 48 ∧ (i < 40 → now = 8 + (i : Int)) ∧ TabS w.heap.size b u t wx ∧ RoomInv now t last ∧ Nine wx c9 last ∧ u.ownBlock ≠ some c9 ∧ Below w.heap.size w wx) (fun s4 s26 wx => n - (RowKit.intOf s26).toNat)
      case atStart => exact ⟨0, 8, _, _, u, rfl, rfl, Nat.zero_le _, by omega, fun _ => rfl, hTA'.out, room_start nS, hcA.out, hucA.out, hbA'.out⟩
      case round =>
        obtain ⟨i, now, last, t, u, rfl, rfl, hi, hnow, hni, hT, hinv, hN, huc, hbw⟩ := hrel
        have hT' := Lib.hid hT
        have hinv' := Lib.hid hinv
        have hN' := Lib.hid hN
        have huc' := Lib.hid huc
        have hbw' := Lib.hid hbw
        have hni' := Lib.hid hni
        by_cases hlt : i < n
        · obtain ⟨z, hz⟩ : ∃ z, zs[i]? = some z := ⟨_, List.getElem?_eq_getElem (by rw [hn'.out]; exact hlt)⟩
          obtain ⟨rfl, hg⟩ := h3'.out (by omega)
          have hc := h4'.out i z hz
          rw [← hbw.cell (p := ⟨g, off + i, none⟩) hg] at hc
          clear hT hinv hN huc hbw hni hz
          by_cases h40 : i < 40
          · have hbl9 := Lib.hid (show w.heap.size ≤ c9 from hbl0.out)
            obtain ⟨r, hm, hr8⟩ := mod8 z
            have hr8' : (r : Int) < 8 := by omega
            obtain ⟨t2, e1, e2⟩ := room_done nS hinv'.out (k := 1 + (r : Int)) ⟨by omega, by omega⟩ nS
            have cD := hD1.out _ _ _ _ (1 + (r : Int)) (now + 1) (now + 1) nS _ hT'.out hbw'.out.size (by rw [room_len hinv'.out]; omega) (room_nodup hinv'.out)
            rw [e1] at cD
            have e2' := Lib.hid e2
            have hnw := Lib.hid (hni'.out h40)
            have hn8 : 8 ≤ now := hinv'.out.2.1
            clear e1 e2
            go_wp2_with fail
            go_at_call 12
            refine cD.mono ?_
            rintro e w2 ⟨rfl, hA2⟩
            have hb2 := Lib.hid (hA2.below hT'.out hbw'.out hbw'.out.size)
            obtain ⟨u2, hT2, ho2, hE2⟩ := hA2
            have hN2 := hN'.out.kept (hE2.block c9 hN'.out.lt (fun e => hbcA.out e.symm) huc'.out)
            have hc92 : u2.ownBlock ≠ some c9 := fun e => by
              rcases ho2 c9 e with h | h
              · exact huc'.out h
              · have := hN'.out.lt; omega
            have hcell := hN2.cell (k := 1 + r) (by omega)
            obtain ⟨hce, hfz⟩ := hcell
            have hT3 := Lib.hid (hT2.otherCell hbcA.out hc92 (1 + r) (.int .i64 (now + 1)))
            have hN3 := hN2.stored (k := 1 + r) (by omega) (now + 1)
            rw [show ((1 + r : Nat) : Int) = 1 + (r : Int) by omega] at hN3
            have hN3' := Lib.hid hN3
            have hb3 := Lib.hid (hb2.out.setCell (p := ⟨c9, 1 + r, none⟩) hbl9.out (.int .i64 (now + 1)))
            have hc92' := Lib.hid hc92
            clear cD hT2 hN2 hE2 ho2 hc92 hN3
            go_wp2
            go_roundw
            case rel => exact ⟨i + 1, now + 1, _, t2, u2, rfl, by go_num, by omega, by have := hnw.out; omega, fun h => by have := hnw.out; omega, hT3.out, e2'.out, hN3'.out, hc92'.out, hb3.out⟩
            case measure => simp [RowKit.intOf]; omega
          · go_wp2
            exact ⟨⟨i + 1, now, last, t, u, rfl, by go_num, by omega, hnow, fun h => by omega, hT'.out, hinv'.out, hN'.out, huc'.out, hbw'.out⟩, by simp [RowKit.intOf]; omega⟩
        · have hL := Lib.hid (seek_least last)
          obtain ⟨t2, e1, e2, e3⟩ := room_open nS hinv'.out hL.out
          have cO := hO1.out _ _ _ _ (now + 1) _ hT'.out hbw'.out.size (by rw [room_len hinv'.out]; omega) (room_nodup hinv'.out)
          rw [e1] at cO
          have e2' := Lib.hid e2
          have e3' := Lib.hid e3
          have hn8 : 8 ≤ now := hinv'.out.2.1
          clear hT hinv hN huc hbw hni e1 e2 e3
          go_wp2_with fail
          go_at_call 8
          refine cO.mono ?_
          rintro e w2 ⟨rfl, hA2⟩
          have hb2 := Lib.hid (hA2.below hT'.out hbw'.out hbw'.out.size)
          obtain ⟨u2, hT2, ho2, hE2⟩ := hA2
          have hN2 := Lib.hid (hN'.out.kept (hE2.block c9 hN'.out.lt (fun e => hbcA.out e.symm) huc'.out))
          have hT2' := Lib.hid hT2
          clear cO hT2 ho2 hE2
          go_wp2
          go_loopw [9, 10] (fun s9 s10 wx => ∃ (j m : Nat), s9 = .int .i64 (seekL last j) ∧ s10 = .int .i64 ((j : Int) + 2) ∧ j ≤ 7 ∧ wx = w2.drewN m) (fun s9 s10 wx => 9 - (RowKit.intOf s10).toNat)
          case atStart => exact ⟨0, 0, rfl, rfl, Nat.zero_le _, rfl⟩
          case round =>
            obtain ⟨j, m, rfl, rfl, hj, rfl⟩ := hrel
            by_cases hlt2 : j < 7
            · obtain ⟨q1, q2, _, _⟩ := seek_at last j
              obtain ⟨L, hLe⟩ : ∃ L : Nat, seekL last j = (L : Int) := ⟨(seekL last j).toNat, by omega⟩
              have hst := Lib.hid (show seekL last (j + 1) = if last ((j : Int) + 2) < last (seekL last j) then (j : Int) + 2 else seekL last j from rfl)
              rw [hLe] at q1 q2 hst ⊢
              have hc1 := (hN2.out.cell (k := j + 2) (by omega)).1
              have hc2 := (hN2.out.cell (k := L) (by omega)).1
              have hjc : ((j + 2 : Nat) : Int) = (j : Int) + 2 := by omega
              rw [hjc] at hc1
              have hL9 : L < 9 := by omega
              have hj9 : j + 2 < 9 := by omega
              clear hLe hjc
              by_cases e1 : last ((j : Int) + 2) < last (L : Int)
              · have hs1 := Lib.hid (hst.out.trans (if_pos e1))
                have d1 : decide (last ((j : Int) + 2) < last (L : Int)) = true := by simpa using e1
                go_wp2
                go_quiet (fail)
                go_wp2
                exact ⟨⟨j + 1, m + nq, congrArg _ hs1.out.symm, by go_num, by omega, rfl⟩, by simp [RowKit.intOf]; omega⟩
              · have hs1 := Lib.hid (hst.out.trans (if_neg e1))
                have d1 : decide (last ((j : Int) + 2) < last (L : Int)) = false := by simpa using e1
                go_wp2
                go_quiet (fail)
                go_wp2
                exact ⟨⟨j + 1, m + nq, congrArg _ hs1.out.symm, by go_num, by omega, rfl⟩, by simp [RowKit.intOf]; omega⟩
            · have e7 : j = 7 := by omega
              obtain ⟨q1, q2, _, _⟩ := seek_at last 7
              obtain ⟨L, hLe⟩ : ∃ L : Int, seekL last 7 = L := ⟨_, rfl⟩
              rw [show ((j : Int) + 2) = 9 by omega, e7, hLe]
              rw [hLe] at e3' q1 q2
              clear e7 hlt2 hj hLe
              go_wp2
              go_loopw [11] (fun s11 wx => ∃ (k : Nat), s11 = .int .i64 ((k : Int) + 1) ∧ k ≤ 8 ∧ TabS w.heap.size b u2 t2 wx ∧ Below w.heap.size w wx) (fun s11 wx => 9 - (RowKit.intOf s11).toNat)
              case atStart => exact ⟨0, rfl, Nat.zero_le _, hT2'.out.kept (below_drewN _ (Below.refl _ _)), below_drewN _ hb2.out⟩
              case round =>
                obtain ⟨k, rfl, hk, hTx, hbx⟩ := hrel
                by_cases hlt3 : k < 8
                · have cA := hA1.out _ _ _ _ ((k : Int) + 1) 1099511627776 _ hTx hbx.size (by rw [e2'.out]; omega)
                  have hiff := e3'.out ((k : Int) + 1) 1099511627776 (by omega) (by omega)
                  unfold askE at cA
                  generalize askT nS t2 ((k : Int) + 1) 1099511627776 = a at cA hiff
                  obtain ⟨a, y⟩ := a
                  simp only at cA hiff
                  have d : (((a : Int) == 0) = true ∧ ((k : Int) + 1 == L) = true) ∨ (((a : Int) == 0) = false ∧ ((k : Int) + 1 == L) = false) := by
                    by_cases h : a = 0
                    · exact .inl ⟨by rw [h]; rfl, by rw [hiff.1 h]; simp⟩
                    · exact .inr ⟨by rw [beq_eq_false_iff_ne]; omega, by rw [beq_eq_false_iff_ne]; exact fun e => h (hiff.2 e)⟩
                  have hTx' := Lib.hid hTx
                  have hbx' := Lib.hid hbx
                  clear hiff hTx hbx
                  go_wp2_with fail
                  go_at_call 10
                  refine cA.mono ?_
                  rintro e w3 ⟨rfl, hb3⟩
                  have hT3 := Lib.hid (hTx'.out.kept hb3)
                  have hb3' := Lib.hid (hbx'.out.trans (hb3.mono hbx'.out.size))
                  clear cA hb3
                  rcases d with ⟨d1, d2⟩ | ⟨d1, d2⟩
                  all_goals
                    go_wp2
                    exact ⟨⟨k + 1, by go_num, by omega, hT3.out, hb3'.out⟩, by simp [RowKit.intOf]; omega⟩
                · have cR := hR1.out _ _ _ _ _ hTx hbx.size (by rw [e2'.out]; omega)
                  have hbx' := Lib.hid hbx
                  clear hTx hbx
                  go_wp2_with fail
                  go_at_call 14
                  refine cR.mono ?_
                  rintro e w3 ⟨⟨u3, rfl, hR3⟩, hb3⟩
                  have hb3' := Lib.hid (hbx'.out.trans (hb3.mono hbx'.out.size))
                  obtain ⟨A3, c3, rfl⟩ := ownsRow_form hR3
                  rw [e2'.out]
                  clear cR hb3 hR3
                  go_wp2
                  go_ret
                  exact ⟨rfl, hb3'.out⟩
end Go.Proofs.Ytnmcgmfpalgpnaa.Se
