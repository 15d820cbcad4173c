/-
  LAYER token: what the program's calls must keep, as propositions; tokens as values; two tokens compared.
-/
import Derived.Test.YtljacnedlgnldaaDoorTokPlain
import Derived.Test.YtljacnedlgnldaaDoorCharDec
import Derived.Test.YtljacnedlgnldaaDoorCharRefNum
import Derived.Laws.StructEq
import Derived.Laws.Strings2
import Derived.ChangeKeysEq
import Derived.Lib.IndexLaws
import Derived.BigQuiet
import Derived.Deep.QuietTactic
import Derived.IntWalk
import Derived.KernelRfl
set_option linter.unusedVariables false
namespace Go.Proofs.YtljacnedlgnldaaDoor.To
open Go.Lib Go.RowKit

theorem below_then {a b c : World} (h1 : Below a.heap.size a b) (h2 : Below b.heap.size b c) : Below a.heap.size a c := h1.trans (h2.mono h1.size)
theorem below_drewN {a w : World} (n : Nat) (h : Below a.heap.size a w) : Below a.heap.size a (w.drewN n) := ⟨h.os, h.tape, h.output, h.size, h.block⟩
def sv (l : Row) : Value := .string ⟨l.toArray⟩
theorem sv_data (s : ByteArray) : sv s.data.toList = .string s := by unfold sv; rw [Lib.mk_data]
theorem sv_some (l : Row) : ∃ x : ByteArray, sv l = .string x ∧ x.data.toList = l := ⟨⟨l.toArray⟩, rfl, by simp⟩
theorem isE {s : ByteArray} : s.toList.isEmpty = decide (s.data.toList = []) := by
  rw [Lib.toList_data, Bool.eq_iff_iff, List.isEmpty_iff, decide_eq_true_iff]
theorem eq_rows (x y : ByteArray) : (x.toList == y.toList) = decide (x.data.toList = y.data.toList) := by
  rw [Lib.toList_data, Lib.toList_data, Bool.eq_iff_iff, decide_eq_true_iff, beq_iff_eq]
abbrev I64 (z : Int) : Prop := -9223372036854775808 ≤ z ∧ z ≤ 9223372036854775807
abbrev tokV (b a : Int) : Value := .agg #[.int .i64 b, .int .i64 a]
/-- what Parse answers -/
def parE (r : Option (Nat × Nat)) : Ending := match r with
  | some p => .returned (.tuple #[tokV (p.1 : Int) (p.2 : Int), .int .i64 0])
  | none => .returned (.tuple #[tokV 0 0, .int .i64 110])
def fitsT (b a book lo hi : Int) : Bool := decide (b = book) && (decide (lo ≤ a) && decide (a ≤ hi))
def PrintC : Prop := ∀ (b a : Int) (W : World), I64 b → I64 a → Ch.Pow W → Calls Tryd.prog 8 #[tokV b a] W fun e w' => e = .returned (sv (prT b a)) ∧ Below W.heap.size W w'
def ParseC : Prop := ∀ (s : ByteArray) (W : World), s.size ≤ 140737488355328 → Calls Tryd.prog 10 #[.string s] W fun e w' => e = parE (paT s.data.toList) ∧ Below W.heap.size W w'
def CheckC : Prop := ∀ (b a book lo hi : Int) (W : World), Calls Tryd.prog 12 #[tokV b a, .int .i64 book, .int .i64 lo, .int .i64 hi] W fun e w' => e = .returned (.int .i64 (if fitsT b a book lo hi = true then 0 else 110)) ∧ Below W.heap.size W w'

theorem txt_len {b a : Nat} (h : right b a) : (txtT b a).length ≤ 53 := by
  have d : ∀ n, n ≤ most → (decDigits n).length ≤ 20 := fun n hn => by
    rw [decDigits_length]
    rcases Nat.eq_zero_or_pos n with h0 | h0
    · rw [nDigits_small (by omega)]; omega
    · have := Lib.numDigits_eq n h0 (by unfold most at hn; omega); split at this <;> omega
  have h1 := d b (by unfold right at h; omega)
  have h2 := d a (by unfold right at h; omega)
  unfold txtT pre
  simp
  omega
theorem pr_len (b a : Int) : (prT b a).length ≤ 53 := by
  unfold prT
  split
  · rename_i h
    exact txt_len (by unfold right; unfold most at h ⊢; omega)
  · exact Nat.zero_le _

/-! ### two tokens by value -/
def fieldG (f : Field) : Bool × TypeId × Nat := (decide (f.name ≠ "_"), f.type, f.offset)
theorem fields_tk : (Tryd.prog.fieldsOf 23).toList.map fieldG = [(true, 3, 0), (true, 3, 1)] := by kernel_rfl
theorem two_of {L : List Field} {a b : Bool × TypeId × Nat} (h : L.map fieldG = [a, b]) : ∃ f0 f1, L = [f0, f1] ∧ fieldG f0 = a ∧ fieldG f1 = b := by
  rcases L with _ | ⟨f0, _ | ⟨f1, _ | ⟨f2, L⟩⟩⟩ <;> simp at h
  exact ⟨f0, f1, rfl, h.1, h.2⟩
theorem field_run {f : Field} {t : TypeId} {o : Nat} (h : fieldG f = (true, t, o)) (d : Nat) (xs ys : Array Value) (fs : List Field) (W : World) (hk : Tryd.prog.plainKey t = true) (u v : Value) (b : Bool) (hx : xs[o]? = some u) (hy : ys[o]? = some v) (hE : (Op.equalIn d t u v).run Tryd.prog W = .ok b W) :
    (Op.eqFields d xs ys (f :: fs)).run Tryd.prog W = if b = true then (Op.eqFields d xs ys fs).run Tryd.prog W else .ok false W := by
  unfold fieldG at h
  simp only [Prod.mk.injEq, decide_eq_true_eq] at h
  obtain ⟨h1, rfl, rfl⟩ := h
  simp only [Op.eqFields, if_pos h1, Sem.run_bind]
  rw [run_part_plain W hk hx]
  simp only [Result.andThen_ok]
  rw [run_part_plain W hk hy]
  simp only [Result.andThen_ok]
  rw [hE]
  cases b <;> simp
set_option maxRecDepth 100000 in
theorem eq_tok (b a d c : Int) (W : World) : (Op.equalIn 10000 23 (.agg #[.int .i64 b, .int .i64 a]) (.agg #[.int .i64 d, .int .i64 c])).run Tryd.prog W = .ok (b == d && a == c) W := by
  rw [run_equalIn_struct W 9999 23 _ _ (by kernel_rfl) (by kernel_rfl)]
  obtain ⟨f0, f1, e, h0, h1⟩ := two_of fields_tk
  rw [e]
  rw [field_run h0 9999 _ _ _ W (by kernel_rfl) (.int .i64 b) (.int .i64 d) (b == d) rfl rfl (run_equalIn_int W 9998 _ .i64 .i64 b d Tryd.underlying3)]
  rw [field_run h1 9999 _ _ _ W (by kernel_rfl) (.int .i64 a) (.int .i64 c) (a == c) rfl rfl (run_equalIn_int W 9998 _ .i64 .i64 a c Tryd.underlying3)]
  cases b == d <;> cases a == c <;> simp [Op.eqFields]
/-- a box of two numbers, in each world that kept it -/
theorem box_two {w W : World} {b a : Int} {t : TypeId} (hb : Below (w.alloc (.cells #[.int .i64 b, .int .i64 a] t)).heap.size (w.alloc (.cells #[.int .i64 b, .int .i64 a] t)) W) :
    W.cell? ⟨w.heap.size, 0, none⟩ = some (.int .i64 b) ∧ W.cell? ⟨w.heap.size, 1, none⟩ = some (.int .i64 a) := by
  have hlt : w.heap.size < (w.alloc (.cells #[.int .i64 b, .int .i64 a] t)).heap.size := by simp
  rw [hb.cell (p := ⟨w.heap.size, 0, none⟩) hlt, hb.cell (p := ⟨w.heap.size, 1, none⟩) hlt]
  constructor <;> (rw [World.cell?_alloc_new]; rfl)
theorem below_box {w W : World} {o : Obj} (hb : Below (w.alloc o).heap.size (w.alloc o) W) : Below w.heap.size w W := ((Below.refl w.heap.size w).alloc (Nat.le_refl _) o).trans (hb.mono (by simp))
end Go.Proofs.YtljacnedlgnldaaDoor.To
