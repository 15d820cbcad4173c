/-
  THE WALKS OF NUMERALS: strconv.FormatUint at base 10 (by the shelf's contracts below it), char.Decimal, the reference's Decimal.
-/
import Derived.Test.YtljacnedlgnldaaDoorShelf
import Derived.Test.YtljacnedlgnldaaDoorCharDecPlain
import Derived.Test.YtljacnedlgnldaaDoorCharBase
import Derived.Lib.AppendIntMem
set_option linter.unusedVariables false
namespace Go.Proofs.YtljacnedlgnldaaDoor.Ch
open Go.Lib Go.RowKit Go.Sort

def Pow (w : World) : Prop := Lib.TabIs Tryd.prog w "internal/strconv.uint64pow10" .u64 Lib.pow10Tab
theorem pow_below {w w' : World} (h : Pow w) (hb : Below w.heap.size w w') : Pow w' := tabBelow_of_tabIs h w' hb

set_option maxHeartbeats 4000000 in
set_option maxRecDepth 100000 in
theorem formatUint_any (u : Nat) (hu : u < 18446744073709551616) (w : World) (hP : Pow w) :
    Calls Tryd.prog 24 #[.int .u64 (u : Int), .int .i64 10] w fun e w' => e = .returned (.string ⟨(decDigits u).toArray⟩) ∧ Below w.heap.size w w' := by
  by_cases hs : u < 100
  · go_enter Tryd.func24, Tryd.ntmps24
    go_wp2_with (go_at_call 27; refine (Tryd.internal_strconv_small u hs _).mono ?_; rintro e w' ⟨rfl, rfl⟩)
    go_ret
    exact ⟨rfl, Below.refl _ _⟩
  · have hu1 : 1 ≤ u := by omega
    have hnd20 : Lib.nDigits u ≤ 20 := by have := Lib.numDigits_eq u hu1 hu; split at this <;> omega
    have hal : Tryd.prog.arrayLen 50 = 24 := by kernel_rfl
    have hsl1 : ∀ W, (Instr.sliceAt 50 (.pointer (some ⟨w.heap.size, 0, none⟩)) none (some (.int .i64 (Lib.nDigits u : Int))) none).run Tryd.prog W = .ok (.slice (some ⟨w.heap.size, 0, none⟩) (Lib.nDigits u) 24) W := fun W => by
      rw [run_sliceAt_array_h W 50 ⟨w.heap.size, 0, none⟩ (by kernel_rfl) .i64 (Lib.nDigits u : Int) (by omega) (by rw [hal]; omega)]
      go_simp
    have hH0 := Lib.holds_zero0 w 50 (Lib.nDigits u) (by omega)
    have hfmt := Tryd.internal_strconv_formatBase10 w.heap.size 0 24 u (Array.replicate (Lib.nDigits u) 0) (w.alloc (.cells Lib.zeros24 50)) hH0 (by rw [Array.size_replicate]; exact Lib.lt_pow_nDigits u) hu (by rw [Array.size_replicate]; omega)
    rw [Array.size_replicate] at hfmt
    have HH0 := Lib.hid hH0
    have hP' := Lib.hid hP
    clear hH0 hal hP
    go_enter Tryd.func24, Tryd.ntmps24
    go_wp2_with (first
      | (go_at_call 28; refine (Tryd.internal_strconv_numDigits u hu1 hu _ (Lib.tabIs_alloc hP'.out _)).mono ?_; rintro e w' ⟨rfl, rfl⟩))
    go_at_call 29
    refine hfmt.mono ?_
    rintro e w' ⟨rfl, k, v', dk, rfl, hF⟩
    have hcv : (convert 46 9 (.slice (some ⟨w.heap.size, 0, none⟩) (Lib.nDigits u) 24)).run Tryd.prog ((putRow (fun (b : UInt8) => Value.int .u8 (b.toNat : Int)) (w.alloc (.cells Lib.zeros24 50)) w.heap.size 0 dk).drewN k) = .ok (.string ⟨(Lib.decDigits u).toArray⟩) ((putRow (fun (b : UInt8) => Value.int .u8 (b.toNat : Int)) (w.alloc (.cells Lib.zeros24 50)) w.heap.size 0 dk).drewN k) := by
      have h := run_convert_bytes_back (P := Tryd.prog) ((putRow (fun (b : UInt8) => Value.int .u8 (b.toNat : Int)) (w.alloc (.cells Lib.zeros24 50)) w.heap.size 0 dk).drewN k) 46 9 5 ⟨w.heap.size, 0, none⟩ 24 (Lib.decDigits u) Tryd.underlying46 Tryd.underlying5 Tryd.underlying9 (fun j hj => by
        rw [Lib.row_is_numeral hF j hj, Lib.add_plain, World.cell?_drewN]
        exact cell?_putRow (fun (b : UInt8) => Value.int .u8 (b.toNat : Int)) _ w.heap.size 0 _ dk HH0.out (by rw [hF.size, Array.size_replicate]) j (by rw [hF.size]; rw [Lib.decDigits_length] at hj; exact hj))
      rw [Lib.decDigits_length] at h
      exact h
    go_wp2
    go_ret
    obtain ⟨os, eo⟩ := Lib.fin_at w (.cells Lib.zeros24 50) dk k 0
    refine ⟨rfl, ?_⟩
    rw [eo]
    exact below_grow _ w (Nat.le_refl _) k os

set_option maxHeartbeats 2000000 in
set_option maxRecDepth 100000 in
theorem decimal_any (u : Nat) (hu : u < 18446744073709551616) (w : World) (hP : Pow w) :
    Calls Tryd.prog 14 #[.int .u64 (u : Int)] w fun e w' => e = .returned (.string ⟨(decDigits u).toArray⟩) ∧ Below w.heap.size w w' := by
  have cF := formatUint_any u hu w hP
  clear hP
  go_enter Tryd.func14, Tryd.ntmps14
  go_wp2_with (first | (go_at_call 21; go_in) | (go_at_call 24; refine cF.mono ?_; rintro e w' ⟨rfl, hb⟩))
  go_ret
  exact ⟨rfl, hb⟩

/-- A block of one byte, read as a string. -/
theorem one_byte (W : World) (B : Nat) (x : UInt8) (hc : W.cell? ⟨B, 0, none⟩ = some (.int .u8 (x.toNat : Int))) :
    (convert 46 9 (.slice (some ⟨B, 0, none⟩) 1 1)).run Tryd.prog W = .ok (.string ⟨([x] : List UInt8).toArray⟩) W :=
  run_convert_bytes_back (P := Tryd.prog) W 46 9 5 ⟨B, 0, none⟩ 1 [x] Tryd.underlying46 Tryd.underlying5 Tryd.underlying9 (fun j hj => by
    have hj' : j = 0 := by simpa using hj
    subst hj'
    exact hc)

def DecRel (n0 : Nat) (w0 : World) (a b : Value) (w : World) : Prop := Below w0.heap.size w0 w ∧ ∃ (v : Nat) (l : List UInt8), a = .int .u64 (v : Int) ∧ b = .string ⟨l.toArray⟩ ∧ decDigits v ++ l = decDigits n0 ∧ v ≤ n0
def natOf : Value → Nat
  | .int _ n => n.toNat
  | _ => 0

set_option maxHeartbeats 4000000 in
set_option maxRecDepth 100000 in
theorem refDecimal_any (u : Nat) (hu : u < 18446744073709551616) (w : World) :
    Calls Tryd.prog 16 #[.int .u64 (u : Int)] w fun e w' => e = .returned (.string ⟨(decDigits u).toArray⟩) ∧ Below w.heap.size w w' := by
  have hlen : (decDigits u).length ≤ 20 := by
    rw [decDigits_length]
    rcases Nat.eq_zero_or_pos u with h | h
    · rw [nDigits_small (by omega)]; omega
    · have := Lib.numDigits_eq u h hu; split at this <;> omega
  have hlen' := Lib.hid hlen
  clear hlen
  go_enter Tryd.func16, Tryd.ntmps16
  go_wp2
  go_loopw [0, 3] (fun a b wr => DecRel u w a b wr) (fun a _ _ => natOf a)
  case atStart => exact ⟨Below.refl _ _, u, [], rfl, rfl, by simp, Nat.le_refl _⟩
  case round =>
    obtain ⟨hb, v, l, rfl, rfl, hl, hv⟩ := hrel
    obtain ⟨x, hx⟩ : ∃ x, UInt8.ofNat (48 + v % 10) = x := ⟨_, rfl⟩
    have hxv : (48 : Int) + (v : Int) % 10 = (x.toNat : Int) := by rw [← hx, digit_val _ (Nat.mod_lt _ (by omega))]; omega
    have hll : l.length ≤ 20 := by
      have h1 := hlen'.out
      have h2 := congrArg List.length hl
      rw [List.length_append] at h2
      omega
    have hcv : (convert 46 9 (.slice (some ⟨wr.heap.size, 0, none⟩) 1 1)).run Tryd.prog (wr.alloc (.cells #[.int .u8 (x.toNat : Int)] 5)) = .ok (.string ⟨#[x]⟩) (wr.alloc (.cells #[.int .u8 (x.toNat : Int)] 5)) :=
      one_byte _ _ x (by rw [World.cell?_alloc_new]; rfl)
    have hjoin : (⟨#[x]⟩ : ByteArray) ++ ⟨l.toArray⟩ = ⟨(x :: l).toArray⟩ := by
      apply ByteArray.ext
      rw [ByteArray.data_append]
      simp
    have hbig : ¬ 9223372036854775807 < (⟨#[x]⟩ : ByteArray).size + (⟨l.toArray⟩ : ByteArray).size := by
      rw [Lib.size_eq, Lib.size_eq]; simp; omega
    have hl' := Lib.hid hl
    have hx' := Lib.hid hx
    have hb' : Below w.heap.size w (wr.alloc (.cells #[.int .u8 (x.toNat : Int)] 5)) := hb.alloc hb.size _
    clear hl hx hb
    by_cases h10 : v < 10
    · have hq : ((v : Int) / 10 == 0) = true := by simp; omega
      have hfin := Lib.hid (show x :: l = decDigits u by
        have h := hl'.out
        rw [dec_small h10] at h
        rw [← hx'.out, Nat.mod_eq_of_lt h10]
        exact h)
      go_wp2
      go_ret
      exact ⟨by rw [← hfin.out]; rfl, hb'⟩
    · have hq : ((v : Int) / 10 == 0) = false := by simp; omega
      have hfin := Lib.hid (show decDigits (v / 10) ++ x :: l = decDigits u by
        have h := hl'.out
        rw [dec_big h10, List.append_assoc] at h
        rw [← hx'.out]
        exact h)
      go_wp2
      go_roundw
      case rel => exact ⟨hb', v / 10, x :: l, by go_num, rfl, hfin.out, by omega⟩
      case measure => simp [natOf]; omega
end Go.Proofs.YtljacnedlgnldaaDoor.Ch
