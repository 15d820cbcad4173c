/-
  THE WALK OF calepinlaw13.SessionLate, over what the program's calls must keep.
-/
import Derived.Test.YtnmcgmfpalgpnaaSesFirst
set_option linter.unusedVariables false
namespace Go.Proofs.Ytnmcgmfpalgpnaa.Se
open Go.Lib Go.RowKit

abbrev tyI : TypeId := 50
abbrev roI : TypeId := 59
abbrev OpenI : Prop := OpenC eI 0 50 59 18
abbrev AskI : Prop := AskC eI 0 50 59 19
abbrev DoneI : Prop := DoneC eI 0 50 59 20
abbrev RowsI : Prop := RowsC eI 50 59 21
abbrev TabI := Tab eI 50 59
/-- a []int, wherever it lies -/
def ZsAt (w : World) (v : Value) (zs : List Int) : Prop :=
  ∃ (A : Option Addr) (b off c : Nat), v = .slice A zs.length c ∧ zs.length ≤ 9223372036854775807 ∧ (0 < zs.length → A = some ⟨b, off, none⟩ ∧ b < w.heap.size) ∧
    ∀ (j : Nat) (z : Int), zs[j]? = some z → w.cell? ⟨b, off + j, none⟩ = some (.int .i64 z)
theorem max_is (a b : Int) : (if a < b then b else a) = max a b := by
  split <;> omega
theorem even_of (i : Nat) : ((i : Int).tmod 2 = 0 ∨ (i : Int).tmod 2 = 1) := by
  rw [Int.tmod_eq_emod_of_nonneg (by omega)]
  omega

set_option maxHeartbeats 16000000 in
set_option maxRecDepth 100000 in
theorem late_walk (hO' : OpenS) (hA' : AskS) (hD' : DoneS) (hO : OpenI) (hD : DoneI) (hR : RowsI) (v : Value) (zs : List Int) (w : World) (hv : ZsAt w v zs) :
    Calls Try.prog 6 #[v] w fun e w' => e = .returned (.bool true) ∧ Below w.heap.size w w' := by
  have cF := first_any hO' hA' hD' w
  obtain ⟨A, g, off, c, rfl, h1, h3, h4⟩ := hv
  obtain ⟨n, hn⟩ : ∃ n, zs.length = n := ⟨_, rfl⟩
  rw [hn] at h1 h3 ⊢
  have hn' := Lib.hid hn
  have h3' := Lib.hid h3
  have h4' := Lib.hid h4
  have hO1 := Lib.hid hO
  have hD1 := Lib.hid hD
  have hR1 := Lib.hid hR
  clear hn h3 h4 hO' hA' hD' hO hD hR
  go_enter Try.func6, Try.ntmps6
  go_wp2_with fail
  go_at_call 7
  refine cF.mono ?_
  rintro e w1 ⟨rfl, hb1⟩
  clear cF
  have hT0 : TabI w.heap.size w1.heap.size (.slice none 0 0) [] (w1.alloc (.cells #[.slice none 0 0] 50)) := (fresh_tab eI _ _ w1).less hb1.size
  have hb0 : Below w.heap.size w (w1.alloc (.cells #[.slice none 0 0] 50)) := hb1.alloc hb1.size _
  have hT0' := Lib.hid hT0
  have hb0' := Lib.hid hb0
  obtain ⟨b, hbe⟩ : ∃ b, w1.heap.size = b := ⟨_, rfl⟩
  rw [hbe] at hT0'
  clear hT0 hb0 hb1
  go_wp2
  go_loopw [4, 5, 13] (fun s4 s5 s13 wr => ∃ (i : Nat) (last seq : Int) (t : Tb Int) (u : Value), s4 = .int .i64 last ∧ s5 = .int .i64 seq ∧ s13 = .int .i64 (i : Int) ∧ i ≤ n ∧ i ≤ 60 ∧ seq ≤ i ∧ 0 ≤ seq ∧ TabI w.heap.size b u t wr ∧ t.length ≤ 8 ∧ (t.map Ro.id).Nodup ∧ LateInv t last seq ∧ Below w.heap.size w wr) (fun s4 s5 s13 wr => n - (RowKit.intOf s13).toNat)
  case atStart => exact ⟨0, 0, 0, [], _, rfl, rfl, rfl, Nat.zero_le _, Nat.zero_le _, Int.le_refl _, Int.le_refl _, hT0'.out, by simp, by simp, late_start, hb0'.out⟩
  case round =>
    obtain ⟨i, last, seq, t, u, rfl, rfl, rfl, hi, hi60, hsq, hs0, hT, ht8, hnd, hinv, hbw⟩ := hrel
    have hT' := Lib.hid hT
    have hnd' := Lib.hid hnd
    have hinv' := Lib.hid hinv
    have hbw' := Lib.hid hbw
    by_cases hlt : i < n
    · obtain ⟨z, hz⟩ : ∃ z, zs[i]? = some z := ⟨_, List.getElem?_eq_getElem (by rw [hn'.out]; exact hlt)⟩
      obtain ⟨rfl, hg⟩ := h3'.out (by omega)
      have hc := h4'.out i z hz
      rw [← hbw.cell (p := ⟨g, off + i, none⟩) hg] at hc
      clear hT hnd hinv hbw hz
      by_cases h60 : 60 ≤ i
      · go_wp2
        go_ret
        exact ⟨rfl, hbw'.out⟩
      · rcases even_of i with hm | hm
        · obtain ⟨e1, e2⟩ := late_open (0 : Int) hinv'.out z
          have cO := hO1.out _ _ _ _ z _ hT'.out hbw'.out.size ht8 hnd'.out
          rw [e1] at cO
          have e2' := Lib.hid e2
          have hln := Lib.hid (open_len (0 : Int) ht8 z)
          have hid := Lib.hid (open_ids (0 : Int) hnd'.out z)
          generalize (openT 0 t z).1 = t2 at cO e2' hln hid
          clear e1 e2
          go_wp2_with fail
          go_at_call 18
          refine cO.mono ?_
          rintro e w2 ⟨rfl, hA2⟩
          have hb2 := Lib.hid (hA2.below hT'.out hbw'.out hbw'.out.size)
          obtain ⟨u2, hT2, _, _⟩ := hA2
          have hT2' := Lib.hid hT2
          clear cO hT2
          go_wp2
          exact ⟨⟨i + 1, _, seq, t2, u2, congrArg _ (max_is last z), rfl, by go_num, by omega, by omega, by omega, hs0, hT2'.out, hln.out, hid.out, e2'.out, hb2.out⟩, by simp [RowKit.intOf]; omega⟩
        · have cR := hR1.out _ _ _ _ _ hT'.out hbw'.out.size ht8
          go_wp2_with fail
          go_at_call 21
          refine cR.mono ?_
          rintro e w2 ⟨⟨u2, rfl, hR2⟩, hb2⟩
          have hT2 := hT'.out.kept hb2
          have hb2 := hbw'.out.trans (hb2.mono hbw'.out.size)
          have hT2' := Lib.hid hT2
          have hb2' := Lib.hid hb2
          obtain ⟨A2, g2, off2, c2, rfl, k1, k2, k3, k4⟩ := hR2.at
          unfold maxLen at k2
          clear cR hT2 hb2 hR2 hT'
          rcases Nat.eq_zero_or_pos t.length with h0 | h0
          · have d1 : ((t.length : Int) == 0) = true := by rw [h0]; rfl
            clear h0
            go_wp2
            exact ⟨⟨i + 1, last, seq, t, u, rfl, rfl, by go_num, by omega, by omega, by omega, hs0, hT2'.out, ht8, hnd'.out, hinv'.out, hb2'.out⟩, by simp [RowKit.intOf]; omega⟩
          · obtain ⟨r, hr⟩ : ∃ r, t[t.length - 1]? = some r := ⟨_, List.getElem?_eq_getElem (by omega)⟩
            obtain ⟨rfl, hg2⟩ := k3 h0
            have hml : t.length - 1 < t.length := by omega
            have d1 : ((t.length : Int) == 0) = false := by rw [beq_eq_false_iff_ne]; omega
            obtain ⟨r0, _, _, _⟩ := k4 _ r hr
            obtain ⟨e1, e2⟩ := late_done (0 : Int) hinv'.out (List.mem_of_getElem? hr) z 0
            have cD := hD1.out _ _ _ _ r.id (seq + 1) z 0 _ hT2'.out hb2'.out.size ht8 hnd'.out
            rw [e1] at cD
            have e2' := Lib.hid e2
            have hln := Lib.hid (done_len (0 : Int) t r.id (seq + 1) z 0)
            have hid := Lib.hid (done_ids (0 : Int) t r.id (seq + 1) z 0)
            generalize (doneT 0 t r.id (seq + 1) z 0).1 = t2 at cD e2' hln hid
            obtain ⟨rid, rl, ru, rx⟩ := r
            simp only at r0 cD
            obtain ⟨q, hq⟩ : ∃ q, t.length = q := ⟨_, rfl⟩
            rw [hq] at k1 h0 hml d1 hln r0 ⊢
            have hq' := Lib.hid hq
            have hq8 : q ≤ 8 := by omega
            clear e1 e2 k3 k4 hr hq
            go_wp2_with fail
            go_at_call 20
            refine cD.mono ?_
            rintro e w3 ⟨rfl, hA3⟩
            have hb3 := Lib.hid (hA3.below hT2'.out hb2'.out hb2'.out.size)
            obtain ⟨u3, hT3, _, _⟩ := hA3
            have hT3' := Lib.hid hT3
            clear cD hT3
            go_wp2
            exact ⟨⟨i + 1, _, seq + 1, t2, u3, congrArg _ (max_is last z), rfl, by go_num, by omega, by omega, by omega, by omega, hT3'.out, by rw [hln.out]; omega, by rw [hid.out]; exact hnd'.out, e2'.out, hb3.out⟩, by simp [RowKit.intOf]; omega⟩
    · clear hT hnd hinv hbw
      go_wp2
      go_ret
      exact ⟨rfl, hbw'.out⟩
end Go.Proofs.Ytnmcgmfpalgpnaa.Se
