/-
  THE WALK OF CondTags.
-/
import Derived.Test.YtgpkkdimafmehaaDoorCondFirst
import Derived.Test.YtgpkkdimafmehaaDoorCondRefList
set_option linter.unusedVariables false
namespace Go.Proofs.YtgpkkdimafmehaaDoor.Co
open Go.Lib Go.RowKit Go.Shelf

theorem ListP.no {l : Row} {e : Ending} {w : World} (h : ListP l e w) (hq : cond l = none) : e = .returned (.tuple #[.slice none 0 0, .bool false, .int .i64 31]) := by
  rcases h with ⟨_, h⟩ | ⟨ts, all, v, h, _⟩
  · exact h
  · rw [hq] at h; cases h
theorem RefP.no {l : Row} {e : Ending} {w : World} (h : RefP l e w) (hq : cond l = none) : e = .returned (.tuple #[.slice none 0 0, .bool false, .bool false]) := by
  rcases h with ⟨_, h⟩ | ⟨ts, all, v, h, _⟩
  · exact h
  · rw [hq] at h; cases h
theorem ListP.yes {l : Row} {e : Ending} {w : World} (h : ListP l e w) {ts : List Nat} {all : Bool} (hq : cond l = some (ts, all)) : ∃ v, NsAt w v ts ∧ e = .returned (.tuple #[v, .bool all, .int .i64 0]) := by
  rcases h with ⟨h, _⟩ | ⟨ts', all', v, h, h2, h3⟩
  · rw [hq] at h; cases h
  · rw [hq] at h
    cases h
    exact ⟨v, h2, h3⟩
theorem RefP.yes {l : Row} {e : Ending} {w : World} (h : RefP l e w) {ts : List Nat} {all : Bool} (hq : cond l = some (ts, all)) : ∃ v, NsAt w v ts ∧ e = .returned (.tuple #[v, .bool all, .bool true]) := by
  rcases h with ⟨h, _⟩ | ⟨ts', all', v, h, h2, h3⟩
  · rw [hq] at h; cases h
  · rw [hq] at h
    cases h
    exact ⟨v, h2, h3⟩

set_option maxHeartbeats 16000000 in
set_option maxRecDepth 100000 in
theorem tags_walk (z : Int) (s : ByteArray) (w : World) (hz : -9223372036854775808 ≤ z ∧ z ≤ 9223372036854775807) (hs : s.size ≤ 1048576) (hP : Ch.Pow w) :
    Calls Tryd.prog 3 #[.int .i64 z, .string s] w fun e w' => e = .returned (.bool true) ∧ Below w.heap.size w w' := by
  have cF := first_any w hP
  have cP := fun W => parse_any s W (by omega)
  have cR := fun W => refParse_any s W (by omega)
  have cL := fun W => list_any s W (by omega)
  have cQ := fun W => refList_any s W (by omega)
  have hway : ∃ (x : ByteArray), (∀ W, Ch.Pow W → Calls Tryd.prog 8 #[.int .i64 z] W fun e w' => e = .returned (.string x) ∧ Below W.heap.size W w') ∧
      (∀ W, Calls Tryd.prog 10 #[.int .i64 z] W fun e w' => e = .returned (.string x) ∧ Below W.heap.size W w') ∧
      ((x.toList.isEmpty = true ∧ ∀ W, Calls Tryd.prog 9 #[.string x] W fun e w' => e = .returned (.tuple #[.int .i64 0, .bool false]) ∧ w' = W) ∨
       (x.toList.isEmpty = false ∧ ∀ W, Calls Tryd.prog 9 #[.string x] W fun e w' => e = .returned (.tuple #[.int .i64 z, .bool true]) ∧ w' = W)) := by
    obtain ⟨x, hx, hxl⟩ := sv_some (tagI z)
    have hxs : x.size ≤ 22 := by
      rw [Lib.size_eq, hxl]
      unfold tagI
      split
      · exact Nat.zero_le _
      · exact tag_len (by omega)
    refine ⟨x, fun W hW => by rw [← hx]; exact tag_any z W hz hW, fun W => by rw [← hx]; exact refTag_any z W hz, ?_⟩
    have hp := par_tagI z
    by_cases hb : z < 1 ∨ 4611686018427387904 < z
    · rw [if_pos hb] at hp
      left
      refine ⟨by rw [isE, decide_eq_true (by rw [hxl]; exact (tagI_empty z).2 hb)], fun W => ?_⟩
      have h := parse_any x W (by omega)
      rw [parE_no (by rw [hxl]; omega)] at h
      exact h
    · rw [if_neg hb] at hp
      right
      refine ⟨by rw [isE, decide_eq_false (by rw [hxl]; exact fun e => hb ((tagI_empty z).1 e))], fun W => ?_⟩
      have h := parse_any x W (by omega)
      rw [parE_yes rfl (by rw [hxl]; omega), hxl, hp] at h
      exact h
  obtain ⟨x, cT, cU, hway⟩ := hway
  have hP' := Lib.hid hP
  clear hP hz
  have hpar : (par s.data.toList = 0) ∨ (∃ n : Nat, par s.data.toList = n ∧ n ≠ 0) := by
    by_cases h : par s.data.toList = 0
    · exact .inl h
    · exact .inr ⟨_, rfl, h⟩
  rcases hway with ⟨hE, cX⟩ | ⟨hE, cX⟩
  all_goals
    rcases hpar with h0 | ⟨n, h0, hn⟩
  case' inl.inl => rw [parE_no h0] at cP; rw [h0] at cR
  case' inr.inl => rw [parE_no h0] at cP; rw [h0] at cR
  case' inl.inr => rw [parE_yes h0 hn] at cP; rw [h0] at cR; have hn1 : (0 : Int) < (n : Int) := by omega
  case' inr.inr => rw [parE_yes h0 hn] at cP; rw [h0] at cR; have hn1 : (0 : Int) < (n : Int) := by omega
  all_goals
    clear h0
    cases hq : cond s.data.toList with
    | none =>
      have hq' := Lib.hid hq
      clear hq
      go_enter Tryd.func3, Tryd.ntmps3
      go_wp2_with fail
      go_at_call 7
      refine cF.mono ?_
      rintro e w1 ⟨rfl, hb1⟩
      go_wp2_with fail
      go_at_call 8
      refine (cT _ (Ch.pow_below hP'.out hb1)).mono ?_
      rintro e w2 ⟨rfl, hb2⟩
      go_wp2_with fail
      go_at_call 9
      refine (cX _).mono ?_
      rintro e w2 ⟨rfl, rfl⟩
      go_wp2_with fail
      go_at_call 10
      refine (cU _).mono ?_
      rintro e w3 ⟨rfl, hb3⟩
      go_wp2_with fail
      go_at_call 9
      refine (cP _).mono ?_
      rintro e w3 ⟨rfl, rfl⟩
      go_wp2_with fail
      go_at_call 11
      refine (cR _).mono ?_
      rintro e w3 ⟨rfl, rfl⟩
      go_wp2_with fail
      go_at_call 12
      refine (cL _).mono ?_
      rintro e w4 ⟨hl, hb4⟩
      obtain rfl := hl.no hq'.out
      clear hl
      go_wp2_with fail
      go_at_call 13
      refine (cQ _).mono ?_
      rintro e w5 ⟨hl, hb5⟩
      obtain rfl := hl.no hq'.out
      have hb := below_then (below_then (below_then (below_then hb1 hb2) hb3) hb4) hb5
      clear hl hb1 hb2 hb3 hb4 hb5
      go_wp2
      go_ret
      exact ⟨rfl, hb⟩
    | some p =>
      obtain ⟨ts, all⟩ := p
      have hq' := Lib.hid hq
      clear hq
      go_enter Tryd.func3, Tryd.ntmps3
      go_wp2_with fail
      go_at_call 7
      refine cF.mono ?_
      rintro e w1 ⟨rfl, hb1⟩
      go_wp2_with fail
      go_at_call 8
      refine (cT _ (Ch.pow_below hP'.out hb1)).mono ?_
      rintro e w2 ⟨rfl, hb2⟩
      go_wp2_with fail
      go_at_call 9
      refine (cX _).mono ?_
      rintro e w2 ⟨rfl, rfl⟩
      go_wp2_with fail
      go_at_call 10
      refine (cU _).mono ?_
      rintro e w3 ⟨rfl, hb3⟩
      go_wp2_with fail
      go_at_call 9
      refine (cP _).mono ?_
      rintro e w3 ⟨rfl, rfl⟩
      go_wp2_with fail
      go_at_call 11
      refine (cR _).mono ?_
      rintro e w3 ⟨rfl, rfl⟩
      go_wp2_with fail
      go_at_call 12
      refine (cL _).mono ?_
      rintro e w4 ⟨hl, hb4⟩
      obtain ⟨v1, hv1, rfl⟩ := hl.yes hq'.out
      obtain ⟨A1, b1, off1, c1, rfl, g1, g2, g3, g4⟩ := hv1
      clear hl
      have k3 := Lib.hid g3
      have k4 := Lib.hid g4
      clear g3 g4
      go_wp2_with fail
      go_at_call 13
      refine (cQ _).mono ?_
      rintro e w5 ⟨hl, hb5⟩
      obtain ⟨v2, hv2, rfl⟩ := hl.yes hq'.out
      obtain ⟨A2, b2, off2, c2, rfl, j1, j2, j3, j4⟩ := hv2
      have l3 := Lib.hid j3
      have l4 := Lib.hid j4
      have m4 : ∀ (j : Nat) (h : j < ts.length), w5.cell? ⟨b1, off1 + j, none⟩ = some (iv ts[j]) := fun j h => (hb5.cell (p := ⟨b1, off1 + j, none⟩) (k3.out (by omega)).2).trans (k4.out j h)
      have m3 : 0 < ts.length → b1 < w5.heap.size := fun h => Nat.lt_of_lt_of_le (k3.out h).2 hb5.size
      have k4' := Lib.hid m4
      have k3' := Lib.hid m3
      have hb := below_then (below_then (below_then (below_then hb1 hb2) hb3) hb4) hb5
      have hmx : ts.length ≤ 9223372036854775807 := by unfold maxLen at g2; omega
      clear hl hb1 hb2 hb3 hb4 hb5 j3 j4 m3 m4
      cases all <;>
        (go_wp2
         go_loopw [17, 121] (fun s17 s121 wr => ∃ k : Nat, s121 = .int .i64 (k : Int) ∧ k ≤ ts.length ∧ Below w5.heap.size w5 wr) (fun s17 s121 wr => ts.length - (RowKit.intOf s121).toNat)
         case atStart => exact ⟨0, rfl, Nat.zero_le _, Below.refl _ _⟩
         case round =>
           obtain ⟨k, rfl, hk, hbr⟩ := hrel
           by_cases hlt : k < ts.length
           · obtain ⟨rfl, q1⟩ := k3.out (by omega)
             obtain ⟨rfl, q2⟩ := l3.out (by omega)
             have hx1 : wr.cell? ⟨b1, off1 + k, none⟩ = some (.int .i64 ((ts[k] : Nat) : Int)) := (hbr.cell (p := ⟨b1, off1 + k, none⟩) (k3'.out (by omega))).trans (k4'.out k hlt)
             have hx2 : wr.cell? ⟨b2, off2 + k, none⟩ = some (.int .i64 ((ts[k] : Nat) : Int)) := (hbr.cell (p := ⟨b2, off2 + k, none⟩) q2).trans (l4.out k hlt)
             generalize ts[k] = m at hx1 hx2
             go_wp2
             go_quiet (fail)
             go_wp2
             go_roundw
             case rel => exact ⟨k + 1, by go_num, by omega, by first | exact below_drewN _ hbr | exact below_drewN _ (below_drewN _ hbr)⟩
             case measure => simp [RowKit.intOf]; omega
           · have hzz : ¬ (k : Int) < (ts.length : Int) := by omega
             go_wp2
             go_ret
             exact ⟨rfl, below_then hb hbr⟩)
end Go.Proofs.YtgpkkdimafmehaaDoor.Co
