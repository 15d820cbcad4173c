/-
  STRUCTS OF LAYER codec LOADED OFF A BLOCK OF THEIR OWN: a command, a reply, an entry, the command within an entry.
-/
import Derived.Test.YtpngbfmbjldieaaRegOps
import Derived.BigQuiet
import Derived.Lib.Builder
set_option linter.unusedVariables false
namespace Go.Proofs.Ytpngbfmbjldieaa.Ly
open Go.Lib Go.RowKit

set_option maxRecDepth 100000 in
theorem ld_com {W : World} {X : Nat} {a0 a1 a2 a3 a4 a5 a6 a7 a8 a9 a10 : Value} {tt : TypeId} (h : W.heap[X]? = some (.cells #[a0, a1, a2, a3, a4, a5, a6, a7, a8, a9, a10] tt (0, 0))) : (Instr.loadAt 27 (.pointer (some ⟨X, 0, none⟩))).run Try.prog W = .ok (.agg #[a0, a1, a2, a3, a4, a5, a6, a7, a8, a9, a10]) W := by
  have c0 : W.cell? ⟨X, 0, none⟩ = some a0 := Lib.cell_of_heap h 0
  have c1 : W.cell? ⟨X, 1, none⟩ = some a1 := Lib.cell_of_heap h 1
  have c2 : W.cell? ⟨X, 2, none⟩ = some a2 := Lib.cell_of_heap h 2
  have c3 : W.cell? ⟨X, 3, none⟩ = some a3 := Lib.cell_of_heap h 3
  have c4 : W.cell? ⟨X, 4, none⟩ = some a4 := Lib.cell_of_heap h 4
  have c5 : W.cell? ⟨X, 5, none⟩ = some a5 := Lib.cell_of_heap h 5
  have c6 : W.cell? ⟨X, 6, none⟩ = some a6 := Lib.cell_of_heap h 6
  have c7 : W.cell? ⟨X, 7, none⟩ = some a7 := Lib.cell_of_heap h 7
  have c8 : W.cell? ⟨X, 8, none⟩ = some a8 := Lib.cell_of_heap h 8
  have c9 : W.cell? ⟨X, 9, none⟩ = some a9 := Lib.cell_of_heap h 9
  have c10 : W.cell? ⟨X, 10, none⟩ = some a10 := Lib.cell_of_heap h 10
  clear h
  go_simp
set_option maxRecDepth 100000 in
theorem ld_rep {W : World} {X : Nat} {a0 a1 a2 a3 a4 : Value} {tt : TypeId} (h : W.heap[X]? = some (.cells #[a0, a1, a2, a3, a4] tt (0, 0))) : (Instr.loadAt 33 (.pointer (some ⟨X, 0, none⟩))).run Try.prog W = .ok (.agg #[a0, a1, a2, a3, a4]) W := by
  have c0 : W.cell? ⟨X, 0, none⟩ = some a0 := Lib.cell_of_heap h 0
  have c1 : W.cell? ⟨X, 1, none⟩ = some a1 := Lib.cell_of_heap h 1
  have c2 : W.cell? ⟨X, 2, none⟩ = some a2 := Lib.cell_of_heap h 2
  have c3 : W.cell? ⟨X, 3, none⟩ = some a3 := Lib.cell_of_heap h 3
  have c4 : W.cell? ⟨X, 4, none⟩ = some a4 := Lib.cell_of_heap h 4
  clear h
  go_simp
set_option maxRecDepth 100000 in
theorem ld_log {W : World} {X : Nat} {a0 a1 a2 a3 a4 a5 a6 a7 a8 a9 a10 a11 a12 a13 : Value} {tt : TypeId} (h : W.heap[X]? = some (.cells #[a0, a1, a2, a3, a4, a5, a6, a7, a8, a9, a10, a11, a12, a13] tt (0, 0))) : (Instr.loadAt 39 (.pointer (some ⟨X, 0, none⟩))).run Try.prog W = .ok (.agg #[a0, a1, a2, a3, a4, a5, a6, a7, a8, a9, a10, a11, a12, a13]) W := by
  have c0 : W.cell? ⟨X, 0, none⟩ = some a0 := Lib.cell_of_heap h 0
  have c1 : W.cell? ⟨X, 1, none⟩ = some a1 := Lib.cell_of_heap h 1
  have c2 : W.cell? ⟨X, 2, none⟩ = some a2 := Lib.cell_of_heap h 2
  have c3 : W.cell? ⟨X, 3, none⟩ = some a3 := Lib.cell_of_heap h 3
  have c4 : W.cell? ⟨X, 4, none⟩ = some a4 := Lib.cell_of_heap h 4
  have c5 : W.cell? ⟨X, 5, none⟩ = some a5 := Lib.cell_of_heap h 5
  have c6 : W.cell? ⟨X, 6, none⟩ = some a6 := Lib.cell_of_heap h 6
  have c7 : W.cell? ⟨X, 7, none⟩ = some a7 := Lib.cell_of_heap h 7
  have c8 : W.cell? ⟨X, 8, none⟩ = some a8 := Lib.cell_of_heap h 8
  have c9 : W.cell? ⟨X, 9, none⟩ = some a9 := Lib.cell_of_heap h 9
  have c10 : W.cell? ⟨X, 10, none⟩ = some a10 := Lib.cell_of_heap h 10
  have c11 : W.cell? ⟨X, 11, none⟩ = some a11 := Lib.cell_of_heap h 11
  have c12 : W.cell? ⟨X, 12, none⟩ = some a12 := Lib.cell_of_heap h 12
  have c13 : W.cell? ⟨X, 13, none⟩ = some a13 := Lib.cell_of_heap h 13
  clear h
  go_simp
set_option maxRecDepth 100000 in
theorem ld_logcom {W : World} {X : Nat} {a0 a1 a2 a3 a4 a5 a6 a7 a8 a9 a10 a11 a12 a13 : Value} {tt : TypeId} (h : W.heap[X]? = some (.cells #[a0, a1, a2, a3, a4, a5, a6, a7, a8, a9, a10, a11, a12, a13] tt (0, 0))) : (Instr.loadAt 27 (.pointer (some ⟨X, 2, none⟩))).run Try.prog W = .ok (.agg #[a2, a3, a4, a5, a6, a7, a8, a9, a10, a11, a12]) W := by
  have c2 : W.cell? ⟨X, 2, none⟩ = some a2 := Lib.cell_of_heap h 2
  have c3 : W.cell? ⟨X, 3, none⟩ = some a3 := Lib.cell_of_heap h 3
  have c4 : W.cell? ⟨X, 4, none⟩ = some a4 := Lib.cell_of_heap h 4
  have c5 : W.cell? ⟨X, 5, none⟩ = some a5 := Lib.cell_of_heap h 5
  have c6 : W.cell? ⟨X, 6, none⟩ = some a6 := Lib.cell_of_heap h 6
  have c7 : W.cell? ⟨X, 7, none⟩ = some a7 := Lib.cell_of_heap h 7
  have c8 : W.cell? ⟨X, 8, none⟩ = some a8 := Lib.cell_of_heap h 8
  have c9 : W.cell? ⟨X, 9, none⟩ = some a9 := Lib.cell_of_heap h 9
  have c10 : W.cell? ⟨X, 10, none⟩ = some a10 := Lib.cell_of_heap h 10
  have c11 : W.cell? ⟨X, 11, none⟩ = some a11 := Lib.cell_of_heap h 11
  have c12 : W.cell? ⟨X, 12, none⟩ = some a12 := Lib.cell_of_heap h 12
  clear h
  go_simp
end Go.Proofs.Ytpngbfmbjldieaa.Ly
