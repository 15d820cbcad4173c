/-
  THE WALK OF THE STATEMENT FoldAgain: for every text of at most 2^20 bytes.
-/
import Derived.Test.YtdocajpnlejagaaDoorFoldFirst
import Derived.Test.YtdocajpnlejagaaDoorFoldGood
import Derived.Deep.RegionHeld3
set_option linter.unusedVariables false
namespace Go.Proofs.YtdocajpnlejagaaDoor.Fo
open Go.Lib Go.RowKit Bu

theorem fold_own (B : Nat) (v : Value) (ls : List Row) (w : World) (hT : Tabs w) (h : Own B v ls w) (hs : tot ls ≤ 17179869184) :
    Calls Tryd.prog 11 #[v] w fun e w' => e = .returned (.string ⟨(foldAll ls).toArray⟩) ∧ Below w.heap.size w w' := by
  rcases h.reads with ⟨rfl, rfl⟩ | ⟨g, cap, rfl, _, hg, hr⟩
  · exact fold_nil w
  · exact fold_some g 0 cap ls w hT hg hr hs

theorem cell_then {w w' : World} {a : Addr} {v : Value} (hb : Below w.heap.size w w') (h : w.cell? a = some v) : w'.cell? a = some v := by
  rw [hb.cell (World.block_lt_of_cell? _ _ h)]; exact h

set_option maxHeartbeats 4000000 in
set_option maxRecDepth 100000 in
theorem again_walk (T : ByteArray) (w : World) (hT : Tabs w) (hs : T.size ≤ 1048576) :
    Calls Tryd.prog 5 #[.string T] w fun e w' => e = .returned (.bool true) ∧ Below w.heap.size w w' := by
  have hT' := Lib.hid hT
  have hs1 : T.size ≤ 1099511627776 := by omega
  clear hT
  go_enter Tryd.func5, Tryd.ntmps5
  go_wp2_with (go_at_call 7; refine (first_any w hT'.out).mono ?_; rintro e w1 ⟨rfl, hb1⟩)
  go_at_call 8
  refine (unfold_any T w1 hs1).mono ?_
  rintro e w2 ⟨hU, hb2⟩
  have hb2' := below_then hb1 hb2
  rcases hU with ⟨v, out, rfl, hR, hown⟩ | ⟨rfl, hR⟩
  · by_cases hbig : 5000 < T.size
    · have d5 : decide ((5000 : Int) < (T.size : Int)) = true := decide_eq_true (by omega)
      clear hbig hR hown hb1 hb2
      go_wp2
      go_ret
      exact ⟨rfl, hb2'⟩
    · have d5 : decide ((5000 : Int) < (T.size : Int)) = false := decide_eq_false (by omega)
      have hgood := R_good _ _ hR
      have htt := R_tot _ _ hR
      have hTl := Lib.size_eq T
      have htot : tot out ≤ 5000 := by omega
      have hol : out.length ≤ 5000 := by have := tot_len out; omega
      have hall := R_all out [] hgood
      have hal := foldAll_len out
      obtain ⟨s, hsd⟩ : ∃ s : ByteArray, (⟨(foldAll out).toArray⟩ : ByteArray) = s := ⟨_, rfl⟩
      have hsl : foldAll out = s.data.toList := by rw [← hsd]
      rw [hsl] at hall hal
      rw [← Lib.size_eq] at hal
      have hss : s.size ≤ 1099511627776 := by omega
      have cF1 : ∀ W B v, Tabs W → Own B v out W → Calls Tryd.prog 11 #[v] W fun e w' => e = .returned (.string s) ∧ Below W.heap.size W w' := fun W B v hW hO => by
        have := fold_own B v out W hW hO (by omega)
        rwa [hsd] at this
      have hall' := Lib.hid hall
      have hgood' := Lib.hid hgood
      have htot' := Lib.hid htot
      have cF1' := Lib.hid cF1
      clear hall hal hsd hsl hgood htt hTl htot hR hbig cF1
      go_wp2_with fail
      go_at_call 11
      refine (cF1'.out w2 _ v (tabs_below hT'.out hb2') hown).mono ?_
      rintro e w3 ⟨rfl, hb3⟩
      have hb3' := below_then hb2' hb3
      go_wp2_with fail
      go_at_call 8
      refine (unfold_any s w3 hss).mono ?_
      rintro e w4 ⟨hU, hb4⟩
      have hb4' := below_then hb3' hb4
      rcases hU with ⟨v2, out2, rfl, hR2, hown2⟩ | ⟨rfl, hR2⟩
      · obtain rfl : out2 = out := by
          have := hR2.symm.trans hall'.out
          simpa using this
        have cF2 := fun W hW (hb : Below w4.heap.size w4 W) => cF1'.out W _ v2 hW (hown2.kept hb)
        have cF2' := Lib.hid cF2
        clear hR2 cF2
        rcases hown.reads with ⟨rfl, h0⟩ | ⟨g, cap, rfl, hBg, hgw, hrd⟩
        · rcases hown2.reads with ⟨rfl, _⟩ | ⟨g2, cap2, rfl, _, _, _⟩
          · clear hown hown2
            go_wp2_with (go_at_call 11; refine (cF2'.out w4 (tabs_below hT'.out hb4') (Below.refl _ _)).mono ?_; rintro e w5 ⟨rfl, hb5⟩)
            refine wp_loop_rounds 1 ?_
            rw [rounds_succ]
            go_wp2
            go_ret
            exact ⟨rfl, below_then hb4' hb5⟩
          · have h0' := congrArg List.length h0
            rw [List.length_nil] at h0'
            rw [h0'] at cF2' ⊢
            clear hown hown2 h0 h0'
            go_wp2_with (go_at_call 11; refine (cF2'.out w4 (tabs_below hT'.out hb4') (Below.refl _ _)).mono ?_; rintro e w5 ⟨rfl, hb5⟩)
            refine wp_loop_rounds 1 ?_
            rw [rounds_succ]
            go_wp2
            go_ret
            exact ⟨rfl, below_then hb4' hb5⟩
        · rcases hown2.reads with ⟨rfl, h0⟩ | ⟨g2, cap2, rfl, hBg2, hgw2, hrd2⟩
          · have h0' := congrArg List.length h0
            rw [List.length_nil] at h0'
            rw [h0']
            clear hown hown2 h0 h0'
            go_wp2_with (go_at_call 11; refine (cF2'.out w4 (tabs_below hT'.out hb4') (Below.refl _ _)).mono ?_; rintro e w5 ⟨rfl, hb5⟩)
            refine wp_loop_rounds 1 ?_
            rw [rounds_succ]
            go_wp2
            go_ret
            exact ⟨rfl, below_then hb4' hb5⟩
          · have hrd3 := Lib.hid ((hrd.below hgw hb3).below (by have := hb3.size; omega) hb4)
            have hrd2' := Lib.hid hrd2
            have hgw4 : g < w4.heap.size := by have := hb3.size; have := hb4.size; omega
            clear hrd hrd2 hown hown2 hb1 hb2 hb3 hb4
            obtain ⟨n, hn⟩ : ∃ n, out2.length = n := ⟨_, rfl⟩
            rw [hn] at hol cF2' ⊢
            have hn' := Lib.hid hn
            clear hn
            go_wp2_with (go_at_call 11; refine (cF2'.out w4 (tabs_below hT'.out hb4') (Below.refl _ _)).mono ?_; rintro e w5 ⟨rfl, hb5⟩)
            go_loopw [47] (fun s47 wr => ∃ k : Nat, s47 = .int .i64 (k : Int) ∧ k ≤ n ∧ Below w4.heap.size w4 wr) (fun s47 wr => n - (RowKit.intOf s47).toNat)
            case atStart => exact ⟨0, rfl, Nat.zero_le _, hb5⟩
            case round =>
              obtain ⟨k, rfl, hk, hbr⟩ := hrel
              by_cases hkn : k < n
              · have hkl : k < out2.length := by rw [hn'.out]; exact hkn
                have hgk := hgood'.out (out2.getD k []) (by rw [List.getD_eq_getElem?_getD, List.getElem?_eq_getElem hkl]; exact List.getElem_mem hkl)
                have htk := tot_take out2 k hkl
                obtain ⟨x, hx⟩ : ∃ x : ByteArray, (⟨(out2.getD k []).toArray⟩ : ByteArray) = x := ⟨_, rfl⟩
                have hxd : out2.getD k [] = x.data.toList := by rw [← hx]
                have hxv : sv (out2.getD k []) = .string x := by unfold sv; rw [hx]
                have hxs : x.size < 4294967281 := by rw [Lib.size_eq, ← hxd]; have := htot'.out; omega
                have cG : ∀ W, Calls Tryd.prog 13 #[.string x] W fun e w' => e = .returned (.bool true) ∧ Below W.heap.size W w' := fun W => by
                  have := good_any x W hxs
                  rwa [← hxd, hgk] at this
                have c0 : wr.cell? ⟨g, k, none⟩ = some (.string x) := by
                  have := (hrd3.out.below hgw4 hbr).cell k hkl x hxv
                  rwa [Nat.zero_add] at this
                have c1 : wr.cell? ⟨g2, k, none⟩ = some (.string x) := by
                  have := (hrd2'.out.below hgw2 hbr).cell k hkl x hxv
                  rwa [Nat.zero_add] at this
                clear hxv hx hkl hgk htk hxd hxs cF2'
                go_wp2_with fail
                go_region_held3 (fun w' => Below wr.heap.size wr w' ∧ w'.cell? ⟨g, k, none⟩ = some (.string x) ∧ w'.cell? ⟨g2, k, none⟩ = some (.string x))
                  (refine ⟨?_, ?_, ?_⟩ <;> first | assumption | exact Below.drew (Below.refl _ _) | exact Below.drew (by assumption) | exact below_then (by assumption) (by assumption) | exact Below.trans (Below.drew (Below.refl _ _)) (by assumption) | exact Below.trans (Below.drew (by assumption)) (by assumption) | exact cell_then (by assumption) (by assumption))
                  (first | (go_at_call 13; ((with_reducible refine (cG _).mono ?_); rintro e wx ⟨rfl, hbx⟩)))
                all_goals (go_wp2; go_roundw)
                case rel => exact ⟨k + 1, by go_num, by omega, by refine below_then hbr ?_; first | assumption | exact Below.trans (Below.drew (Below.refl _ _)) (by assumption)⟩
                case measure => simp [RowKit.intOf]; omega
              · go_wp2
                go_ret
                exact ⟨rfl, hb4'.trans (hbr.mono hb4'.size)⟩
      · rw [hall'.out] at hR2
        cases hR2
  · clear hR
    go_wp2
    go_ret
    exact ⟨rfl, hb2'⟩
end Go.Proofs.YtdocajpnlejagaaDoor.Fo
