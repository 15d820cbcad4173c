/-
  CrcEnds: bytes with their sum behind.
-/
import Derived.Test.YtpngbfmbjldieaaCrcSmall
set_option linter.unusedVariables false
namespace Go.Proofs.Ytpngbfmbjldieaa.Cr
open Go.Lib Go.RowKit
open Bo (Row)
open Ly (BtsAt)

theorem min_nat (a b : Nat) : ∃ n : Nat, n ≤ a ∧ n ≤ b ∧ min (a : Int) (b : Int) = (n : Int) := ⟨min a b, Nat.min_le_left _ _, Nat.min_le_right _ _, by omega⟩
theorem le4_bytes (s : Nat) (h : s < 4294967296) : ((le4 s).map fun b => Value.int .u8 (b.toNat : Int)).toArray = #[.int .u8 ((s : Int) % 256), .int .u8 ((s : Int) / 256 % 256), .int .u8 ((s : Int) / 65536 % 256), .int .u8 ((s : Int) / 16777216)] := by
  have h4 : (s : Int) / 16777216 % 256 = (s : Int) / 16777216 := by omega
  unfold le4
  simp [h4]
theorem pts_two (w : World) (v u : Value) (l m : Row) (hb : BtsAt w v l) (hc : BtsAt w u m) : PtsAt (w.alloc (.cells #[v, u] 22)) (.slice (some ⟨w.heap.size, 0, none⟩) 2 2) [v, u] [l, m] :=
  pts_new w 22 [v, u] [l, m] 2 rfl (by decide) _ rfl rfl fun j u l h1 h2 => by
    match j, h1, h2 with
    | 0, h1, h2 => simp at h1 h2; subst h1 h2; exact hb
    | 1, h1, h2 => simp at h1 h2; subst h1 h2; exact hc
    | j + 2, h1, h2 => simp at h1
set_option maxHeartbeats 8000000 in
set_option maxRecDepth 100000 in
theorem ends_walk (w : World) (v : Value) (l : Row) (z : Int) (hb : BtsAt w v l) :
    Calls Try.prog 8 #[v, .int .i64 z] w fun e w' => e = .returned (.bool true) ∧ Below w.heap.size w w' := by
  have cF := first_any w
  obtain ⟨A, db, off, c, rfl, k1, k2, k3, k4⟩ := Ly.bts_one hb
  have hlen : l.length ≤ 9223372036854775807 := by unfold maxLen at k2; omega
  have hb' := Lib.hid hb
  clear hb k3 k4
  obtain ⟨K, hK, hKe⟩ := Ly.rem_of z 20 (by omega) (by omega)
  obtain ⟨N, hN1, hN2, hmin⟩ := min_nat l.length 3000
  have hmin' : min (l.length : Int) 3000 = (N : Int) := hmin
  have hKe' : wrap64 ((IntKind.u64.wrap z).tmod 20) = (K : Int) := hKe
  clear hmin hKe
  go_enter Try.func8, Try.ntmps8
  go_wp2_with fail
  go_at_call 22
  refine cF.mono ?_
  rintro e w1 ⟨rfl, hb1⟩
  have hx : BtsAt w1 (.slice A N c) (l.take N) := (bts_take hb'.out hN1).kept hb1
  obtain ⟨x, hxe⟩ : ∃ x, l.take N = x := ⟨_, rfl⟩
  have hxl : x.length = N := by rw [← hxe, List.length_take]; omega
  rw [hxe] at hx
  have hx' := Lib.hid hx
  have hb1' := Lib.hid hb1
  have cS := sum_one w1 _ _ hx
  have hsl := sum_lt x
  obtain ⟨s, hs⟩ : ∃ s, sum x = s := ⟨_, rfl⟩
  rw [hs] at cS hsl
  have hs' := Lib.hid hs
  have hxl' := Lib.hid hxl
  clear cF hx hb1 hs hxe hxl
  go_wp2_with fail
  go_at_call 24
  refine cS.mono ?_
  rintro e w2 ⟨rfl, hb2⟩
  clear cS
  have hb2' := Lib.hid (hb1'.out.trans (hb2.mono hb1'.out.size))
  obtain ⟨w3, hmk, hO3, hb3⟩ := made w2 (1 + K) (by omega)
  rw [show (((1 + K : Nat)) : Int) = 1 + (K : Int) by omega] at hmk
  have hb3' := Lib.hid (hb2'.out.trans (hb3.mono hb2'.out.size))
  have hx3 := Lib.hid ((hx'.out.kept hb2).kept hb3)
  have hO3' := Lib.hid hO3
  obtain ⟨w4, hw4⟩ : ∃ w4, w3.alloc (.cells #[.int .u8 ((s : Int) % 256), .int .u8 ((s : Int) / 256 % 256), .int .u8 ((s : Int) / 65536 % 256), .int .u8 ((s : Int) / 16777216)] 5) = w4 := ⟨_, rfl⟩
  have hb4 : Below w3.heap.size w3 w4 := by rw [← hw4]; exact (Below.refl _ _).alloc (Nat.le_refl _) _
  have hs4 : w4.heap.size = w3.heap.size + 1 := by rw [← hw4]; exact size_alloc _ _
  have hq : BtsAt w4 (.slice (some ⟨w3.heap.size, 0, none⟩) 4 4) (le4 s) := by
    have h := row_bts w3 5 (0, 0) (le4 s) 4 rfl (by decide)
    rw [le4_bytes s hsl, hw4] at h
    exact h
  have cE := sum_any _ _ _ _ (pts_two w4 _ _ _ _ (hx3.out.kept hb4) hq)
  rw [show ([x, le4 s] : List Row).flatten = x ++ le4 s by simp, ← hs'.out, sum_ends, hs4] at cE
  have h45 : Below w4.heap.size w4 (w4.alloc (.cells #[.slice A N c, .slice (some ⟨w3.heap.size, 0, none⟩) 4 4] 22)) := (Below.refl _ _).alloc (Nat.le_refl _) _
  have h35' := Lib.hid (hb4.trans (h45.mono hb4.size))
  have hw4' := Lib.hid hw4
  have cE' := Lib.hid cE
  clear hb2 hb3 hO3 hb4 hq h45 hs4 hw4 cE
  go_wp2_with fail
  rw [hw4'.out]
  have cE := cE'.out
  clear cE' hw4'
  go_at_call 24
  refine cE.mono ?_
  rintro e w5 ⟨rfl, hb5⟩
  have hb35 := h35'.out.trans (hb5.mono h35'.out.size)
  have hb5' := Lib.hid (hb3'.out.trans (hb35.mono hb3'.out.size))
  have hO5 := hO3'.out.kept hb35
  clear cE hb5
  by_cases hN0 : N = 0
  · subst hN0
    have cZ := sum_one w5 _ _ (bts_own hO5)
    have hne := sum_zeros (n := 1 + K) (by omega) (by omega)
    obtain ⟨y, hy⟩ : ∃ y, sum (List.replicate (1 + K) 0) = y := ⟨_, rfl⟩
    rw [hy] at cZ hne
    have hyd : ((y : Int) != 0) = true := by simp; omega
    have hyd2 : ¬ (y : Int) = 0 := by omega
    clear hO5 hb35 hy
    go_wp2_with fail
    go_at_call 24
    refine cZ.mono ?_
    rintro e w6 ⟨rfl, hb6⟩
    have hb6' := Lib.hid (hb5'.out.trans (hb6.mono hb5'.out.size))
    clear cZ hb6
    go_wp2
    go_ret
    exact ⟨rfl, hb6'.out⟩
  · have hgt : decide ((0 : Int) < (N : Int)) = true := decide_eq_true (by omega)
    clear hO5 hb35
    go_wp2
    go_ret
    exact ⟨rfl, hb5'.out⟩
end Go.Proofs.Ytpngbfmbjldieaa.Cr
