/-
  THE WALKS OF crc.More AND crc.Sum.
-/
import Derived.Test.YtpngbfmbjldieaaCrcCodeA
import Derived.Test.YtpngbfmbjldieaaRdrB
import Derived.Deep.Cut
set_option linter.unusedVariables false
namespace Go.Proofs.Ytpngbfmbjldieaa.Cr
open Go.Lib Go.RowKit
open Bo (Row)
open Ly (BtsAt)

theorem and15 (r : Nat) : r &&& 15 = r % 16 := Nat.and_two_pow_sub_one_eq_mod r 4
theorem low_high4 (r : Nat) : r = (r % 16) ^^^ (r / 16 * 2 ^ 4) := by
  have h : r % 16 ^^^ (r / 16 * 2 ^ 4) = r / 16 * 2 ^ 4 + r % 16 := by
    rw [Nat.xor_comm, Nat.mul_comm]
    have := Nat.two_pow_add_eq_or_of_lt (i := 4) (b := r % 16) (Nat.mod_lt _ (by decide)) (r / 16)
    rw [this]
    apply Nat.eq_of_testBit_eq
    intro i
    rw [Nat.testBit_xor, Nat.testBit_or, Nat.testBit_two_pow_mul]
    by_cases hi : i < 4
    · simp [show ¬ 4 ≤ i by omega]
    · have : (r % 16).testBit i = false := Nat.testBit_lt_two_pow (Nat.lt_of_lt_of_le (Nat.mod_lt _ (by decide)) (Nat.pow_le_pow_right (n := 2) (i := 4) (by decide) (by omega)))
      simp [this]
  omega
/-- half a byte by the table -/
theorem half_table (r : Nat) : stps 4 r = (r / 16) ^^^ stps 4 (r % 16) := by
  conv => lhs; rw [low_high4 r]
  rw [stps_high, Nat.xor_comm]
theorem byt_halves (r : Nat) (x : UInt8) : byt r x = stps 4 (stps 4 (r ^^^ x.toNat)) := by unfold byt; rw [← stps_add]
theorem max32 : IntKind.u32.max = ((full : Nat) : Int) := by decide
theorem not32 {r : Nat} (h : r < 4294967296) : bits .xor .u32 IntKind.u32.max (r : Int) = ((r ^^^ full : Nat) : Int) := by
  rw [max32, u32_xor_nat full r (by decide) h, Nat.xor_comm]
theorem halves_lit (w : World) : ∃ x : Nat → Nat, (∀ i, x i = stps 4 i) ∧ Calls Try.prog 41 #[] w fun e w' => e = .returned (.agg #[.int .u32 (x 0 : Int), .int .u32 (x 1 : Int), .int .u32 (x 2 : Int), .int .u32 (x 3 : Int), .int .u32 (x 4 : Int), .int .u32 (x 5 : Int), .int .u32 (x 6 : Int), .int .u32 (x 7 : Int), .int .u32 (x 8 : Int), .int .u32 (x 9 : Int), .int .u32 (x 10 : Int), .int .u32 (x 11 : Int), .int .u32 (x 12 : Int), .int .u32 (x 13 : Int), .int .u32 (x 14 : Int), .int .u32 (x 15 : Int)]) ∧ Below w.heap.size w w' :=
  ⟨fun i => stps 4 i, fun _ => rfl, halves_any w⟩
/-- the table in memory -/
theorem tab_cell {w : World} {g : Nat} {x : Nat → Nat} (h : w.heap[g]? = some (.cells #[.int .u32 (x 0 : Int), .int .u32 (x 1 : Int), .int .u32 (x 2 : Int), .int .u32 (x 3 : Int), .int .u32 (x 4 : Int), .int .u32 (x 5 : Int), .int .u32 (x 6 : Int), .int .u32 (x 7 : Int), .int .u32 (x 8 : Int), .int .u32 (x 9 : Int), .int .u32 (x 10 : Int), .int .u32 (x 11 : Int), .int .u32 (x 12 : Int), .int .u32 (x 13 : Int), .int .u32 (x 14 : Int), .int .u32 (x 15 : Int)] 86 (0, 0))) (i : Nat) (hi : i < 16) : w.cell? ⟨g, i, none⟩ = some (.int .u32 (x i : Int)) := by
  rw [Lib.cell_of_heap h i]
  rcases i with _ | _ | _ | _ | _ | _ | _ | _ | _ | _ | _ | _ | _ | _ | _ | _ | i
  all_goals first | rfl | omega
theorem half_step {r : Nat} (h : r < 4294967296) (x : Nat → Nat) (hx : ∀ i, x i = stps 4 i) : ∃ m n : Nat, m < 16 ∧ n = stps 4 r ∧ n < 4294967296 ∧ bits .and .u32 (r : Int) 15 = (m : Int) ∧ bits .xor .u32 ((r : Int) / 16) (x m : Int) = (n : Int) := by
  refine ⟨r % 16, stps 4 r, by omega, rfl, stps_lt 4 h, ?_, ?_⟩
  · have := u32_and_nat r 15 h (by decide)
    rw [and15] at this
    exact this
  · rw [hx, half_table r, ← u32_xor_nat (r / 16) (stps 4 (r % 16)) (by omega) (stps_lt 4 (by omega))]
    rfl
set_option maxHeartbeats 8000000 in
set_option maxRecDepth 100000 in
theorem more_any (w : World) (s : Nat) (hs : s < 4294967296) (v : Value) (l : Row) (hb : BtsAt w v l) :
    Calls Try.prog 25 #[.int .u32 (s : Int), v] w fun e w' => e = .returned (.int .u32 ((reg (s ^^^ full) l ^^^ full : Nat) : Int)) ∧ Below w.heap.size w w' := by
  obtain ⟨x, hx0, cH⟩ := halves_lit w
  have hx := Lib.hid hx0
  clear hx0
  have hR := reg_lt l (r := s ^^^ full) (xor_lt hs (by decide))
  have hn1 := not32 hs
  have hn2 := not32 hR
  obtain ⟨A, db, off, c, rfl, k1, k2, k3, k4⟩ := Ly.bts_one hb
  have hlen : l.length ≤ 9223372036854775807 := by unfold maxLen at k2; omega
  obtain ⟨r0, hr0⟩ : ∃ r0, s ^^^ full = r0 := ⟨_, rfl⟩
  obtain ⟨z, hz⟩ : ∃ z, reg (s ^^^ full) l ^^^ full = z := ⟨_, rfl⟩
  have hr0l : r0 < 4294967296 := by rw [← hr0]; exact xor_lt hs (by decide)
  rw [hz] at hn2 ⊢
  rw [hr0] at hn1 hn2
  clear hz hr0 hR hb
  go_enter Try.func25, Try.ntmps25
  go_wp2_with fail
  go_at_call 41
  refine cH.mono ?_
  rintro e w1 ⟨rfl, hb1⟩
  have k3' := Lib.hid k3
  have k4' := Lib.hid k4
  clear cH k3 k4
  go_upto_region 2 with fail
  obtain ⟨w2, hw2⟩ : ∃ w2, w1.alloc (.cells #[.int .u32 (x 0 : Int), .int .u32 (x 1 : Int), .int .u32 (x 2 : Int), .int .u32 (x 3 : Int), .int .u32 (x 4 : Int), .int .u32 (x 5 : Int), .int .u32 (x 6 : Int), .int .u32 (x 7 : Int), .int .u32 (x 8 : Int), .int .u32 (x 9 : Int), .int .u32 (x 10 : Int), .int .u32 (x 11 : Int), .int .u32 (x 12 : Int), .int .u32 (x 13 : Int), .int .u32 (x 14 : Int), .int .u32 (x 15 : Int)] 86) = w2 := ⟨_, rfl⟩
  have hbk : w2.heap[w1.heap.size]? = some (.cells #[.int .u32 (x 0 : Int), .int .u32 (x 1 : Int), .int .u32 (x 2 : Int), .int .u32 (x 3 : Int), .int .u32 (x 4 : Int), .int .u32 (x 5 : Int), .int .u32 (x 6 : Int), .int .u32 (x 7 : Int), .int .u32 (x 8 : Int), .int .u32 (x 9 : Int), .int .u32 (x 10 : Int), .int .u32 (x 11 : Int), .int .u32 (x 12 : Int), .int .u32 (x 13 : Int), .int .u32 (x 14 : Int), .int .u32 (x 15 : Int)] 86 (0, 0)) := by rw [← hw2]; exact heap_alloc_new w1 _
  have hb2 : Below w.heap.size w w2 := by rw [← hw2]; exact hb1.alloc hb1.size _
  rw [hw2]
  obtain ⟨g, hg⟩ : ∃ g, w1.heap.size = g := ⟨_, rfl⟩
  rw [hg] at hbk ⊢
  have hcell := Lib.hid (fun i hi => tab_cell hbk i hi)
  have hk4 := Lib.hid (fun (h0 : 0 < l.length) j y hj => (show w2.cell? ⟨db, off + j, none⟩ = some (.int .u8 ((y : UInt8).toNat : Int)) from (hb2.cell (p := ⟨db, off + j, none⟩) (k3'.out h0).2).trans (k4'.out j y hj)))
  have hF := Lib.hid hb2
  clear hw2 hbk hb1 hb2 k4'
  go_wp2
  go_loopw [6, 14] (fun s6 s14 wr => wr = w2 ∧ ∃ k : Nat, s14 = .int .i64 (k : Int) ∧ k ≤ l.length ∧ s6 = .int .u32 (reg r0 (l.take k) : Int)) (fun _ s14 wr => l.length - (RowKit.intOf s14).toNat)
  case atStart => exact ⟨rfl, 0, rfl, by omega, by rw [List.take_zero]; rfl⟩
  case round =>
    obtain ⟨rfl, k, rfl, hk, rfl⟩ := hrel
    by_cases hlt : k < l.length
    · obtain ⟨b, hbk⟩ : ∃ b, l[k]? = some b := ⟨_, List.getElem?_eq_getElem (by omega)⟩
      have hcb := hk4.out (by omega) k b hbk
      obtain ⟨rfl, hdb⟩ := k3'.out (by omega)
      have hrl := reg_lt (l.take k) hr0l
      have hsn : reg r0 (l.take (k + 1)) = byt (reg r0 (l.take k)) b := by
        have e := (List.getElem?_eq_some_iff.1 hbk)
        rw [List.take_succ_eq_append_getElem e.1, e.2, reg_app]
        rfl
      obtain ⟨r, hr⟩ : ∃ r, reg r0 (l.take k) = r := ⟨_, rfl⟩
      rw [hr] at hrl hsn ⊢
      rw [byt_halves] at hsn
      obtain ⟨r1, hr1⟩ : ∃ r1, r ^^^ b.toNat = r1 := ⟨_, rfl⟩
      have hr1l : r1 < 4294967296 := by rw [← hr1]; exact xor_lt hrl (by have := b.toNat_lt; omega)
      have q0 : bits .xor .u32 (r : Int) ((b.toNat : Int) % 4294967296) = (r1 : Int) := by
        rw [show (b.toNat : Int) % 4294967296 = (b.toNat : Int) by have := b.toNat_lt; omega, u32_xor_nat r b.toNat hrl (by have := b.toNat_lt; omega), hr1]
      rw [hr1] at hsn
      obtain ⟨m2, r2, hm2, hr2, hr2l, q1, q2⟩ := half_step hr1l x hx.out
      obtain ⟨m3, r3, hm3, hr3, hr3l, q3, q4⟩ := half_step hr2l x hx.out
      have c2 := hcell.out m2 hm2
      have c3 := hcell.out m3 hm3
      rw [← hr2, ← hr3] at hsn
      have hsn' := Lib.hid hsn
      clear hsn hr hr1 hr2 hr3 hbk
      go_wp2
      go_roundw
      case rel => exact ⟨trivial, k + 1, by go_num, by omega, by rw [hsn'.out]⟩
      case measure => simp [RowKit.intOf]; omega
    · obtain rfl : k = l.length := by omega
      rw [List.take_of_length_le (Nat.le_refl _)]
      go_wp2
      go_ret
      exact ⟨rfl, hF.out⟩
/-- parts: a row of rows of bytes -/
structure PtsAt (w : World) (v : Value) (vs : List Value) (ls : List Row) : Prop where
  len : vs.length = ls.length
  row : Cd.RowsAt 1 (fun u : Value => [u]) w v vs
  all : ∀ (j : Nat) u l, vs[j]? = some u → ls[j]? = some l → BtsAt w u l
theorem sum_more (a b : Row) : reg (sum a ^^^ full) b ^^^ full = sum (a ++ b) := (sum_app a b).symm
set_option maxHeartbeats 8000000 in
set_option maxRecDepth 100000 in
theorem sum_any (w : World) (v : Value) (vs : List Value) (ls : List Row) (h : PtsAt w v vs ls) :
    Calls Try.prog 24 #[v] w fun e w' => e = .returned (.int .u32 ((sum ls.flatten : Nat) : Int)) ∧ Below w.heap.size w w' := by
  obtain ⟨A, db, off, c, rfl, k1, k2, k3, k4⟩ := Cd.rows_one (f := fun u : Value => u) (fun _ => rfl) h.row
  have hlen : vs.length ≤ 9223372036854775807 := by unfold maxLen at k2; omega
  have hal := Lib.hid h.all
  have hll := Lib.hid h.len
  have k3' := Lib.hid k3
  have k4' := Lib.hid k4
  clear k3 k4 h
  go_enter Try.func24, Try.ntmps24
  go_wp2
  go_loopw [3, 8] (fun s3 s8 wr => Hid (Below w.heap.size w wr) ∧ ∃ k : Nat, s8 = .int .i64 (k : Int) ∧ k ≤ vs.length ∧ s3 = .int .u32 ((sum (ls.take k).flatten : Nat) : Int)) (fun _ s8 wr => vs.length - (RowKit.intOf s8).toNat)
  case atStart => exact ⟨Lib.hid (Below.refl _ _), 0, rfl, by omega, by rw [List.take_zero]; show _ = Value.int .u32 ((sum [] : Nat) : Int); rw [sum_nil]; rfl⟩
  case round =>
    obtain ⟨hb, k, rfl, hk, rfl⟩ := hrel
    by_cases hlt : k < vs.length
    · obtain ⟨u, hu⟩ : ∃ u, vs[k]? = some u := ⟨_, List.getElem?_eq_getElem (by omega)⟩
      obtain ⟨l, hl⟩ : ∃ l, ls[k]? = some l := ⟨_, List.getElem?_eq_getElem (by have := hll.out; omega)⟩
      obtain ⟨rfl, hdb⟩ := k3'.out (by omega)
      have hcu : wr.cell? ⟨db, off + k, none⟩ = some u := (hb.out.cell (p := ⟨db, off + k, none⟩) hdb).trans (k4'.out k u hu)
      have hsn : reg (sum (ls.take k).flatten ^^^ full) l ^^^ full = sum (ls.take (k + 1)).flatten := by
        have e := (List.getElem?_eq_some_iff.1 hl)
        rw [sum_more, List.take_succ_eq_append_getElem e.1, e.2, List.flatten_append]
        simp
      have cM := more_any wr (sum (ls.take k).flatten) (sum_lt _) u l ((hal.out k u l hu hl).kept hb.out)
      rw [hsn] at cM
      clear hsn hu hl
      obtain ⟨z, hz⟩ : ∃ z, sum (ls.take k).flatten = z := ⟨_, rfl⟩
      obtain ⟨z2, hz2⟩ : ∃ z, sum (ls.take (k + 1)).flatten = z := ⟨_, rfl⟩
      rw [hz, hz2] at cM
      rw [hz]
      have hz2' := Lib.hid hz2
      clear hz hz2
      go_wp2_with fail
      go_at_call 25
      refine cM.mono ?_
      rintro e w1 ⟨rfl, hb1⟩
      have hb2 := Lib.hid (hb.out.trans (hb1.mono hb.out.size))
      clear cM hb1
      go_wp2
      go_roundw
      case rel => exact ⟨hb2, k + 1, by go_num, by omega, by rw [hz2'.out]⟩
      case measure => simp [RowKit.intOf]; omega
    · obtain rfl : k = vs.length := by omega
      have hlt2 : ls.take vs.length = ls := List.take_of_length_le (by have := hll.out; omega)
      rw [hlt2]
      go_wp2
      go_ret
      exact ⟨rfl, hb.out⟩
end Go.Proofs.Ytpngbfmbjldieaa.Cr
