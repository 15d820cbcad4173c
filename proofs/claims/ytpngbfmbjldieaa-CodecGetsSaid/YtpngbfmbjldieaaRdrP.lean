/-
  SMALL LAWS OF READING: a cell that is set; a byte behind a number.
-/
import Derived.Test.YtpngbfmbjldieaaLayB
import Derived.Lib.Builder
import Derived.Laws.BitsAllLaws
import Derived.Deep.QuietTactic
import Derived.Laws.Rows
set_option linter.unusedVariables false
namespace Go.Proofs.Ytpngbfmbjldieaa.Ly
open Go.Lib Go.RowKit
open Bo (Kp Row ownsRow_heap)

theorem set_heap {W : World} {g : Nat} {cs : Array Value} {t : TypeId} (h : W.heap[g]? = some (.cells cs t (0, 0))) (j : Nat) (v : Value) : (W.setCell ⟨g, j, none⟩ v).heap[g]? = some (.cells (cs.setIfInBounds j v) t (0, 0)) := by
  simp [World.setCell, Array.getElem?_modify, h]
theorem u64_wrap (n : Nat) (h : n < 18446744073709551616) : IntKind.u64.wrap (n : Int) = (n : Int) := by
  simp [IntKind.wrap, IntKind.bits, IntKind.signed]
  omega
theorem or_byte (z : Nat) (b : UInt8) (h : z * 256 < 18446744073709551616) : bits BinOp.or IntKind.u64 ((z : Int) * 256) (IntKind.u64.wrap (b.toNat : Int)) = ((z * 256 + b.toNat : Nat) : Int) := by
  have hb := b.toNat_lt
  have e : ((z : Int) * 256) = ((z * 256 : Nat) : Int) := by omega
  rw [e, u64_wrap _ (by omega), u64_or_nat (z * 256) b.toNat (by omega) (by omega), Nat.or_comm]
  have := Nat.shiftLeft_add_eq_or_of_lt (a := z) (b := b.toNat) (i := 8) (by omega)
  rw [Nat.shiftLeft_eq] at this
  rw [Nat.or_comm, ← this]

end Go.Proofs.Ytpngbfmbjldieaa.Ly
