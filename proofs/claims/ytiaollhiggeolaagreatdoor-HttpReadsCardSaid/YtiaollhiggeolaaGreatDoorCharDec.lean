/-
  THE WALKS OF NUMERALS: strconv.FormatUint at base 10 (by the shelf's contracts below it), char.Decimal, the reference's Decimal.
-/
import Derived.Test.YtiaollhiggeolaaGreatDoorShelf
import Derived.Test.YtiaollhiggeolaaGreatDoorCharDecPlain
import Derived.Test.YtiaollhiggeolaaGreatDoorCharLetters
import Derived.Lib.AppendIntMem
set_option linter.unusedVariables false
namespace Go.Proofs.YtiaollhiggeolaaGreatDoor.Ch
open Go.Lib Go.RowKit Go.Sort

def Pow (w : World) : Prop := Lib.TabIs Tryz.prog w "internal/strconv.uint64pow10" .u64 Lib.pow10Tab
theorem pow_below {w w' : World} (h : Pow w) (hb : Below w.heap.size w w') : Pow w' := tabBelow_of_tabIs h w' hb

set_option maxHeartbeats 4000000 in
set_option maxRecDepth 100000 in
theorem formatUint_any (u : Nat) (hu : u < 18446744073709551616) (w : World) (hP : Pow w) :
    Calls Tryz.prog 65 #[.int .u64 (u : Int), .int .i64 10] w fun e w' => e = .returned (.string ⟨(decDigits u).toArray⟩) ∧ Below w.heap.size w w' := by
  by_cases hs : u < 100
  · go_enter Tryz.func65, Tryz.ntmps65
    go_wp2_with (go_at_call 81; refine (Tryz.internal_strconv_small u hs _).mono ?_; rintro e w' ⟨rfl, rfl⟩)
    go_ret
    exact ⟨rfl, Below.refl _ _⟩
  · have hu1 : 1 ≤ u := by omega
    have hnd20 : Lib.nDigits u ≤ 20 := by have := Lib.numDigits_eq u hu1 hu; split at this <;> omega
    have hal : Tryz.prog.arrayLen 114 = 24 := by kernel_rfl
    have hsl1 : ∀ W, (Instr.sliceAt 114 (.pointer (some ⟨w.heap.size, 0, none⟩)) none (some (.int .i64 (Lib.nDigits u : Int))) none).run Tryz.prog W = .ok (.slice (some ⟨w.heap.size, 0, none⟩) (Lib.nDigits u) 24) W := fun W => by
      rw [run_sliceAt_array_h W 114 ⟨w.heap.size, 0, none⟩ (by kernel_rfl) .i64 (Lib.nDigits u : Int) (by omega) (by rw [hal]; omega)]
      go_simp
    have hH0 := Lib.holds_zero0 w 114 (Lib.nDigits u) (by omega)
    have hfmt := Tryz.internal_strconv_formatBase10 w.heap.size 0 24 u (Array.replicate (Lib.nDigits u) 0) (w.alloc (.cells Lib.zeros24 114)) hH0 (by rw [Array.size_replicate]; exact Lib.lt_pow_nDigits u) hu (by rw [Array.size_replicate]; omega)
    rw [Array.size_replicate] at hfmt
    have HH0 := Lib.hid hH0
    have hP' := Lib.hid hP
    clear hH0 hal hP
    go_enter Tryz.func65, Tryz.ntmps65
    go_wp2_with (first
      | (go_at_call 82; refine (Tryz.internal_strconv_numDigits u hu1 hu _ (Lib.tabIs_alloc hP'.out _)).mono ?_; rintro e w' ⟨rfl, rfl⟩))
    go_at_call 83
    refine hfmt.mono ?_
    rintro e w' ⟨rfl, k, v', dk, rfl, hF⟩
    have hcv : (convert 75 9 (.slice (some ⟨w.heap.size, 0, none⟩) (Lib.nDigits u) 24)).run Tryz.prog ((putRow (fun (b : UInt8) => Value.int .u8 (b.toNat : Int)) (w.alloc (.cells Lib.zeros24 114)) w.heap.size 0 dk).drewN k) = .ok (.string ⟨(Lib.decDigits u).toArray⟩) ((putRow (fun (b : UInt8) => Value.int .u8 (b.toNat : Int)) (w.alloc (.cells Lib.zeros24 114)) w.heap.size 0 dk).drewN k) := by
      have h := run_convert_bytes_back (P := Tryz.prog) ((putRow (fun (b : UInt8) => Value.int .u8 (b.toNat : Int)) (w.alloc (.cells Lib.zeros24 114)) w.heap.size 0 dk).drewN k) 75 9 5 ⟨w.heap.size, 0, none⟩ 24 (Lib.decDigits u) Tryz.underlying75 Tryz.underlying5 Tryz.underlying9 (fun j hj => by
        rw [Lib.row_is_numeral hF j hj, Lib.add_plain, World.cell?_drewN]
        exact cell?_putRow (fun (b : UInt8) => Value.int .u8 (b.toNat : Int)) _ w.heap.size 0 _ dk HH0.out (by rw [hF.size, Array.size_replicate]) j (by rw [hF.size]; rw [Lib.decDigits_length] at hj; exact hj))
      rw [Lib.decDigits_length] at h
      exact h
    go_wp2
    go_ret
    obtain ⟨os, eo⟩ := Lib.fin_at w (.cells Lib.zeros24 114) dk k 0
    refine ⟨rfl, ?_⟩
    rw [eo]
    exact below_grow _ w (Nat.le_refl _) k os

set_option maxHeartbeats 2000000 in
set_option maxRecDepth 100000 in
theorem decimal_any (u : Nat) (hu : u < 18446744073709551616) (w : World) (hP : Pow w) :
    Calls Tryz.prog 43 #[.int .u64 (u : Int)] w fun e w' => e = .returned (.string ⟨(decDigits u).toArray⟩) ∧ Below w.heap.size w w' := by
  have cF := formatUint_any u hu w hP
  clear hP
  go_enter Tryz.func43, Tryz.ntmps43
  go_wp2_with (first | (go_at_call 55; go_in) | (go_at_call 65; refine cF.mono ?_; rintro e w' ⟨rfl, hb⟩))
  go_ret
  exact ⟨rfl, hb⟩

/-- A block of one byte, read as a string. -/
theorem one_byte (W : World) (B : Nat) (x : UInt8) (hc : W.cell? ⟨B, 0, none⟩ = some (.int .u8 (x.toNat : Int))) :
    (convert 75 9 (.slice (some ⟨B, 0, none⟩) 1 1)).run Tryz.prog W = .ok (.string ⟨([x] : List UInt8).toArray⟩) W :=
  run_convert_bytes_back (P := Tryz.prog) W 75 9 5 ⟨B, 0, none⟩ 1 [x] Tryz.underlying75 Tryz.underlying5 Tryz.underlying9 (fun j hj => by
    have hj' : j = 0 := by simpa using hj
    subst hj'
    exact hc)

def DecRel (n0 : Nat) (w0 : World) (a b : Value) (w : World) : Prop := Below w0.heap.size w0 w ∧ ∃ (v : Nat) (l : List UInt8), a = .int .u64 (v : Int) ∧ b = .string ⟨l.toArray⟩ ∧ decDigits v ++ l = decDigits n0 ∧ v ≤ n0
def natOf : Value → Nat
  | .int _ n => n.toNat
  | _ => 0

end Go.Proofs.YtiaollhiggeolaaGreatDoor.Ch
