/-
  THE WALK OF THE STATEMENT FoldReads: for every text of at most 2^40 bytes.
-/
import Derived.Test.YtdocajpnlejagaaDoorFoldFirst
import Derived.Test.YtdocajpnlejagaaDoorFoldRefUnf
set_option linter.unusedVariables false
namespace Go.Proofs.YtdocajpnlejagaaDoor.Fo
open Go.Lib Go.RowKit Bu

theorem sv_ne (l : Row) (x : ByteArray) (h : sv l = .string x) : x = ⟨l.toArray⟩ := by unfold sv at h; exact (Value.string.inj h).symm

set_option maxHeartbeats 4000000 in
set_option maxRecDepth 100000 in
theorem reads_walk (T : ByteArray) (w : World) (hT : Tabs w) (hs : T.size ≤ 1099511627776) :
    Calls Tryd.prog 3 #[.string T] w fun e w' => e = .returned (.bool true) ∧ Below w.heap.size w w' := by
  have hT' := Lib.hid hT
  have hs' := Lib.hid hs
  clear hT
  go_enter Tryd.func3, Tryd.ntmps3
  go_wp2_with (go_at_call 7; refine (first_any w hT'.out).mono ?_; rintro e w1 ⟨rfl, hb1⟩)
  go_at_call 8
  refine (unfold_any T w1 hs).mono ?_
  rintro e w2 ⟨hU, hb2⟩
  have hb2' := below_then hb1 hb2
  rcases hU with ⟨v, out, rfl, hR, hown⟩ | ⟨rfl, hR⟩
  · have hR' := Lib.hid hR
    clear hR
    go_wp2_with fail
    go_at_call 9
    refine (refUnfold_any T w2 hs).mono ?_
    rintro e w3 ⟨hU, hb3⟩
    have hb3' := below_then hb2' hb3
    rcases hU with ⟨v2, out2, rfl, hR2, hown2⟩ | ⟨rfl, hR2⟩
    · obtain rfl : out2 = out := Option.some.inj (hR2.symm.trans hR'.out)
      have hlen := tot_len out2
      have htt := R_tot _ _ hR2
      have hol : out2.length ≤ 1099511627776 := by have := Lib.size_eq T; omega
      clear hR2 hR' hlen htt
      rcases hown.reads with ⟨rfl, rfl⟩ | ⟨g, cap, rfl, hBg, hgw, hrd⟩
      · rcases hown2.reads with ⟨rfl, _⟩ | ⟨g2, cap2, rfl, _, _, _⟩
        · clear hown hown2
          go_wp2
          refine wp_loop_rounds 1 ?_
          rw [rounds_succ]
          go_wp2
          go_ret
          exact ⟨rfl, hb3'⟩
        · clear hown hown2
          simp only [List.length_nil]
          go_wp2
          refine wp_loop_rounds 1 ?_
          rw [rounds_succ]
          go_wp2
          go_ret
          exact ⟨rfl, hb3'⟩
      · rcases hown2.reads with ⟨_, rfl⟩ | ⟨g2, cap2, rfl, hBg2, hgw2, hrd2⟩
        · clear hown hown2 hrd
          simp only [List.length_nil]
          go_wp2
          refine wp_loop_rounds 1 ?_
          rw [rounds_succ]
          go_wp2
          go_ret
          exact ⟨rfl, hb3'⟩
        · have hrd3 := Lib.hid (hrd.below hgw hb3)
          have hrd2' := Lib.hid hrd2
          have hgw3 : g < w3.heap.size := by have := hb3.size; omega
          clear hrd hrd2 hown hown2 hb1 hb2 hb3
          obtain ⟨n, hn⟩ : ∃ n, out2.length = n := ⟨_, rfl⟩
          rw [hn] at hol ⊢
          have hn' := Lib.hid hn
          clear hn
          go_wp2
          go_loopw [40] (fun s40 wr => ∃ k : Nat, s40 = .int .i64 (k : Int) ∧ k ≤ n ∧ Below w3.heap.size w3 wr) (fun s40 wr => n - (RowKit.intOf s40).toNat)
          case atStart => exact ⟨0, rfl, Nat.zero_le _, Below.refl _ _⟩
          case round =>
            obtain ⟨k, rfl, hk, hbr⟩ := hrel
            by_cases hkn : k < n
            · have hkl : k < out2.length := by rw [hn'.out]; exact hkn
              obtain ⟨x, hx⟩ : ∃ x : ByteArray, sv (out2.getD k []) = .string x := ⟨_, rfl⟩
              have c0 : wr.cell? ⟨g, k, none⟩ = some (.string x) := by
                have := (hrd3.out.below hgw3 hbr).cell k hkl x hx
                rwa [Nat.zero_add] at this
              have c1 : wr.cell? ⟨g2, k, none⟩ = some (.string x) := by
                have := (hrd2'.out.below hgw2 hbr).cell k hkl x hx
                rwa [Nat.zero_add] at this
              clear hx hkl
              go_wp2
              go_quiet (fail)
              go_wp2
              go_roundw
              case rel => exact ⟨k + 1, by go_num, by omega, below_drewN _ hbr⟩
              case measure => simp [RowKit.intOf]; omega
            · go_wp2
              go_ret
              exact ⟨rfl, hb3'.trans (hbr.mono hb3'.size)⟩
    · rw [hR'.out] at hR2
      cases hR2
  · have hR' := Lib.hid hR
    clear hR
    go_wp2_with fail
    go_at_call 9
    refine (refUnfold_any T w2 hs).mono ?_
    rintro e w3 ⟨hU, hb3⟩
    have hb3' := below_then hb2' hb3
    rcases hU with ⟨v2, out2, rfl, hR2, hown2⟩ | ⟨rfl, hR2⟩
    · rw [hR'.out] at hR2
      cases hR2
    · clear hR2
      go_wp2
      go_ret
      exact ⟨rfl, hb3'⟩
end Go.Proofs.YtdocajpnlejagaaDoor.Fo
