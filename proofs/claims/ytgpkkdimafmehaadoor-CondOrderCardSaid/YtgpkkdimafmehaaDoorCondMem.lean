/-
  ROWS OF NUMBERS IN MEMORY: wherever they read ('NsAt'), of the call's own ('World.ownsRow'); a function's results that lie in cells.
-/
import Derived.Test.YtgpkkdimafmehaaDoorCondCode
import Derived.RangeFuncBox
import Derived.OwnWalk
import Derived.OwnWalkIn
import Derived.KernelRfl
set_option linter.unusedVariables false
namespace Go.Proofs.YtgpkkdimafmehaaDoor.Co
open Go.Lib Go.RowKit

def iv (n : Nat) : Value := .int .i64 (n : Int)
/-- a slice of numbers, wherever it lies -/
def NsAt (w : World) (v : Value) (ts : List Nat) : Prop :=
  ∃ (A : Option Addr) (b off c : Nat), v = .slice A ts.length c ∧ ts.length ≤ c ∧ c ≤ maxLen ∧ (0 < ts.length → A = some ⟨b, off, none⟩ ∧ b < w.heap.size) ∧
    ∀ (j : Nat) (h : j < ts.length), w.cell? ⟨b, off + j, none⟩ = some (iv ts[j])
theorem NsAt.kept {w w' : World} {v : Value} {ts : List Nat} (h : NsAt w v ts) (hb : Below w.heap.size w w') : NsAt w' v ts := by
  obtain ⟨A, b, off, c, h1, h2, h3, h4, h5⟩ := h
  refine ⟨A, b, off, c, h1, h2, h3, fun hl => ⟨(h4 hl).1, Nat.lt_of_lt_of_le (h4 hl).2 hb.size⟩, fun j hj => ?_⟩
  rw [hb.cell (p := ⟨b, off + j, none⟩) (h4 (by omega)).2]
  exact h5 j hj
theorem nsAt_nil (w : World) : NsAt w (.slice none 0 0) [] := ⟨none, 0, 0, 0, rfl, by simp, by unfold maxLen; omega, fun h => absurd h (by simp), fun j h => absurd h (by simp)⟩
theorem ownsRow_at {w : World} {B : Nat} {e : TypeId} {v : Value} {ts : List Nat} (h : w.ownsRow B e 1 v ts.length (ts.map iv)) : NsAt w v ts := by
  obtain ⟨h1, h2 | ⟨g, cap, cur, e1, e2, e3, e4, e5, e6, e7⟩⟩ := h
  · obtain rfl : ts = [] := List.eq_nil_of_length_eq_zero h2.2
    rw [h2.1]; exact nsAt_nil w
  · refine ⟨_, g, 0, cap, e1, e4, e5, fun _ => ⟨rfl, (Array.getElem?_eq_some_iff.1 e3).1⟩, fun j hj => ?_⟩
    rw [Lib.cell_of_heap e3, Nat.zero_add]
    have : (cur.toList.take (ts.length * 1))[j]? = (ts.map iv)[j]? := by rw [e7]
    rw [List.getElem?_take, if_pos (by omega), List.getElem?_map, List.getElem?_eq_getElem hj] at this
    rw [← Array.getElem?_toList, this]; rfl
theorem ownsRow_form {w : World} {B : Nat} {e : TypeId} {size : Nat} {v : Value} {n : Nat} {xs : List Value} (h : w.ownsRow B e size v n xs) : ∃ ao c, v = .slice ao n c := by
  rcases h.2 with ⟨hv, hn⟩ | ⟨g, cap, cur, e1, _⟩
  · exact ⟨none, 0, by rw [hv, hn]⟩
  · exact ⟨_, _, e1⟩

theorem infoInt : (Tryd.prog.info? 3).map (fun i => (i.zero, i.size, i.bytes)) = some (some (.int .i64 0), 1, 8) := by kernel_rfl

/-! ### three results in cells -/
def Res3 (n : Nat) (v b e : Value) (W : World) : Prop := Boxed W n 27 v ∧ Boxed W (n + 1) 4 b ∧ Boxed W (n + 2) 28 e
theorem load_box {W : World} {n : Nat} {t ty : TypeId} {v : Value} (h : Boxed W n t v) (hg : (isAgg ty).run Tryd.prog W = .ok false W) : (loadVar ty ⟨n, 0, none⟩).run Tryd.prog W = .ok v W := by
  have hc := h.cell
  simp only [loadVar, Sem.run_bind, hg, Result.andThen, load]
  simp [Sem.run, hc]
theorem res3 {fn : Func} {p q r : Tmp} (h : fn.results = #[.cell p 27, .cell q 4, .cell r 28]) (tmps : Array Value) {W : World} {n : Nat} {v b e : Value} (hR : Res3 n v b e W)
    (hp : tmps.getD p undef = .pointer (some ⟨n, 0, none⟩)) (hq : tmps.getD q undef = .pointer (some ⟨n + 1, 0, none⟩)) (hr : tmps.getD r undef = .pointer (some ⟨n + 2, 0, none⟩)) :
    (results fn tmps).run Tryd.prog W = .ok (.tuple #[v, b, e]) W := by
  have l1 := load_box hR.1 (ty := 27) (by simp [isAgg, go_sem])
  have l2 := load_box hR.2.1 (ty := 4) (by simp [isAgg, go_sem])
  have l3 := load_box hR.2.2 (ty := 28) (by simp [isAgg, go_sem])
  have hp' : tmps[p]?.getD undef = .pointer (some ⟨n, 0, none⟩) := by simpa using hp
  have hq' : tmps[q]?.getD undef = .pointer (some ⟨n + 1, 0, none⟩) := by simpa using hq
  have hr' : tmps[r]?.getD undef = .pointer (some ⟨n + 2, 0, none⟩) := by simpa using hr
  simp [results, h, hp', hq', hr', asAddr, Sem.run_bind, Result.andThen, l1, l2, l3]
end Go.Proofs.YtgpkkdimafmehaaDoor.Co
