/-
  ROWS WHEREVER THEY READ ('RowsAt': an element's cells are told by enc). No function of the program stands here.
-/
import Derived.Test.YtpngbfmbjldieaaRowB
import Derived.Lib.Builder
set_option linter.unusedVariables false
namespace Go.Proofs.Ytpngbfmbjldieaa.Cd
open Go.Lib Go.RowKit
open Bo (Kp Row ownsRow_heap sv sv_data)

/-- rows, wherever they read: an element's cells are told by enc -/
def RowsAt {α : Type} (size : Nat) (enc : α → List Value) (w : World) (v : Value) (xs : List α) : Prop :=
  ∃ (A : Option Addr) (b off c : Nat), v = .slice A xs.length c ∧ xs.length ≤ c ∧ c ≤ maxLen ∧ (0 < xs.length → A = some ⟨b, off, none⟩ ∧ b < w.heap.size) ∧
    ∀ (j : Nat) (x : α), xs[j]? = some x → ∀ (q : Nat) (u : Value), (enc x)[q]? = some u → w.cell? ⟨b, off + j * size + q, none⟩ = some u
section
variable {α : Type} {size : Nat} {enc : α → List Value}
theorem RowsAt.kept {w w' : World} {v : Value} {xs : List α} (h : RowsAt size enc w v xs) (hb : Below w.heap.size w w') : RowsAt size enc w' v xs := by
  obtain ⟨A, b, off, c, h1, h2, h3, h4, h5⟩ := h
  refine ⟨A, b, off, c, h1, h2, h3, fun hl => ⟨(h4 hl).1, Nat.lt_of_lt_of_le (h4 hl).2 hb.size⟩, fun j x hj q u hu => ?_⟩
  have hlt := (h4 (by have := (List.getElem?_eq_some_iff.1 hj).1; omega)).2
  rw [hb.cell (p := ⟨b, off + j * size + q, none⟩) hlt]
  exact h5 j x hj q u hu
theorem RowsAt.nil (w : World) : RowsAt size enc w (.slice none 0 0) ([] : List α) :=
  ⟨none, 0, 0, 0, rfl, by simp, by unfold maxLen; omega, fun h => absurd h (by simp), fun j x hj => by simp at hj⟩
theorem flat_at (he : ∀ x : α, (enc x).length = size) : ∀ (xs : List α) (j : Nat) (x : α), xs[j]? = some x → ∀ (q : Nat) (u : Value), (enc x)[q]? = some u → (xs.flatMap enc)[j * size + q]? = some u
  | [], j, x, h, q, u, hu => by simp at h
  | y :: xs, 0, x, h, q, u, hu => by
    simp at h; subst h
    have hq := (List.getElem?_eq_some_iff.1 hu).1
    rw [List.flatMap_cons, Nat.zero_mul, Nat.zero_add, List.getElem?_append_left hq]
    exact hu
  | y :: xs, j + 1, x, h, q, u, hu => by
    have := flat_at he xs j x (by simpa using h) q u hu
    rw [List.flatMap_cons, List.getElem?_append_right (by rw [he]; rw [Nat.succ_mul]; omega), he, show (j + 1) * size + q - size = j * size + q by rw [Nat.succ_mul]; omega]
    exact this
theorem flat_size (he : ∀ x : α, (enc x).length = size) : ∀ xs : List α, (xs.flatMap enc).length = xs.length * size
  | [] => by simp
  | y :: xs => by rw [List.flatMap_cons, List.length_append, he, flat_size he xs, List.length_cons, Nat.succ_mul]; omega
theorem rows_of {w : World} {B : Nat} {e : TypeId} {v : Value} {xs : List α} (he : ∀ x : α, (enc x).length = size) (hs : 0 < size) (h : w.ownsRow B e size v xs.length (xs.flatMap enc)) : RowsAt size enc w v xs := by
  obtain ⟨h1, h2 | ⟨g, cap, cur, e1, e2, e3, e4, e5, e6, e7⟩⟩ := h
  · obtain rfl : xs = [] := List.eq_nil_of_length_eq_zero h2.2
    rw [h2.1]; exact RowsAt.nil w
  · refine ⟨_, g, 0, cap, e1, e4, e5, fun _ => ⟨rfl, (Array.getElem?_eq_some_iff.1 e3).1⟩, fun j x hj q u hu => ?_⟩
    have hlt := (List.getElem?_eq_some_iff.1 hj).1
    have hq := (List.getElem?_eq_some_iff.1 hu).1
    rw [he] at hq
    have hw := flat_at he xs j x hj q u hu
    have hb : j * size + q < xs.length * size := by
      have : (j + 1) * size ≤ xs.length * size := Nat.mul_le_mul_right _ hlt
      rw [Nat.succ_mul] at this
      omega
    rw [Lib.cell_of_heap e3, Nat.zero_add]
    have : (cur.toList.take (xs.length * size))[j * size + q]? = (xs.flatMap enc)[j * size + q]? := by rw [e7]
    rw [List.getElem?_take, if_pos hb, hw] at this
    rw [← Array.getElem?_toList, this]
end
def encS (s : Row) : List Value := [sv s]
def encI (z : Int) : List Value := [.int .i64 z]
abbrev StrsAt (w : World) (v : Value) (ls : List Row) : Prop := RowsAt 1 encS w v ls
abbrev IntsAt (w : World) (v : Value) (ls : List Int) : Prop := RowsAt 1 encI w v ls
/-- one element's cell, where an element has one -/
theorem rows_one {α : Type} {enc : α → List Value} {f : α → Value} (hf : ∀ x, enc x = [f x]) {w : World} {v : Value} {xs : List α} (h : RowsAt 1 enc w v xs) : ∃ (A : Option Addr) (b off c : Nat), v = .slice A xs.length c ∧ xs.length ≤ c ∧ c ≤ maxLen ∧ (0 < xs.length → A = some ⟨b, off, none⟩ ∧ b < w.heap.size) ∧ ∀ (j : Nat) (x : α), xs[j]? = some x → w.cell? ⟨b, off + j, none⟩ = some (f x) := by
  obtain ⟨A, b, off, c, h1, h2, h3, h4, h5⟩ := h
  refine ⟨A, b, off, c, h1, h2, h3, h4, fun j x hj => ?_⟩
  have := h5 j x hj 0 (f x) (by rw [hf]; rfl)
  rw [Nat.mul_one, Nat.add_zero] at this
  exact this
end Go.Proofs.Ytpngbfmbjldieaa.Cd
