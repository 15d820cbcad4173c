/-
  HOW LISTS LIE IN MEMORY: rows of strings ('Own'), of signs ('SOwn'), and rows of such rows ('ROwn'), each of the call's own; and wherever they read ('RowAt').
-/
import Derived.Test.YtjdockjkioomiaaValuePlain
import Derived.Test.YtjdockjkioomiaaBuild
import Derived.Below
import Derived.Lib.Hide
import Derived.Lib.IndexLaws
import Derived.KernelRfl
import Derived.OwnWalk
import Derived.WalkKit
set_option linter.unusedVariables false
namespace Go.Proofs.Ytjdockjkioomiaa.Va
open Go.Lib Go.RowKit

theorem below_then {a b c : World} (h1 : Below a.heap.size a b) (h2 : Below b.heap.size b c) : Below a.heap.size a c := h1.trans (h2.mono h1.size)
theorem below_drewN {a w : World} (n : Nat) (h : Below a.heap.size a w) : Below a.heap.size a (w.drewN n) := ⟨h.os, h.tape, h.output, h.size, h.block⟩
def sv (l : Row) : Value := .string ⟨l.toArray⟩
theorem sv_data (s : ByteArray) : sv s.data.toList = .string s := by unfold sv; rw [Lib.mk_data]
theorem sv_some (l : Row) : ∃ x : ByteArray, sv l = .string x ∧ x.data.toList = l := ⟨⟨l.toArray⟩, rfl, by simp⟩
theorem ownsRow_kept {w w' : World} {B : Nat} {e : TypeId} {size : Nat} {v : Value} {n : Nat} {xs : List Value} (h : w.ownsRow B e size v n xs) (hb : Below w.heap.size w w') : w'.ownsRow B e size v n xs := by
  refine ⟨h.1, ?_⟩
  rcases h.2 with h | ⟨g, cap, cur, e1, e2, e3, e4⟩
  · exact .inl h
  · exact .inr ⟨g, cap, cur, e1, e2, by rw [hb.block g (Array.getElem?_eq_some_iff.1 e3).1]; exact e3, e4⟩
theorem ownsRow_less {w : World} {B B' : Nat} {e : TypeId} {size : Nat} {v : Value} {n : Nat} {xs : List Value} (h : w.ownsRow B e size v n xs) (hb : B' ≤ B) : w.ownsRow B' e size v n xs := by
  refine ⟨h.1, ?_⟩
  rcases h.2 with h | ⟨g, cap, cur, e1, e2, e3, e4⟩
  · exact .inl h
  · exact .inr ⟨g, cap, cur, e1, Nat.le_trans hb e2, e3, e4⟩
/-- a row of another element type is left where a row is written -/
theorem ownsRow_beside {w w' : World} {B B' : Nat} {e e' : TypeId} {size size' : Nat} {v v' : Value} {n n' : Nat} {xs xs' : List Value} (h : w.ownsRow B e size v n xs) (k : w.ownsRow B' e' size' v' n' xs') (hne : e ≠ e') (hg : w.grownBy w' v'.ownBlock) : w'.ownsRow B e size v n xs := by
  refine ⟨h.1, ?_⟩
  rcases h.2 with h | ⟨g, cap, cur, e1, e2, e3, e4⟩
  · exact .inl h
  · refine .inr ⟨g, cap, cur, e1, e2, ?_, e4⟩
    rw [hg.block g (Array.getElem?_eq_some_iff.1 e3).1 ?_]
    · exact e3
    · intro hk
      rcases k.2 with k | ⟨g', cap', cur', f1, f2, f3, f4⟩
      · rw [k.1] at hk; cases hk
      · rw [f1] at hk
        obtain rfl : g = g' := by simpa [Value.ownBlock] using hk
        rw [e3] at f3
        have := Option.some.inj f3
        injection this with _ ht
        exact hne ht
theorem ownsRow_form {w : World} {B : Nat} {e : TypeId} {size : Nat} {v : Value} {n : Nat} {xs : List Value} (h : w.ownsRow B e size v n xs) : ∃ ao c, v = .slice ao n c := by
  rcases h.2 with ⟨hv, hn⟩ | ⟨g, cap, cur, e1, _⟩
  · exact ⟨none, 0, by rw [hv, hn]⟩
  · exact ⟨_, _, e1⟩

/-- a slice that reads so, wherever it lies, its elements of one cell each -/
def RowAt {α : Type} (P : World → Value → α → Prop) (w : World) (v : Value) (xs : List α) : Prop :=
  ∃ (A : Option Addr) (b off c : Nat), v = .slice A xs.length c ∧ xs.length ≤ c ∧ c ≤ maxLen ∧ (0 < xs.length → A = some ⟨b, off, none⟩ ∧ b < w.heap.size) ∧
    ∀ (j : Nat) (x : α), xs[j]? = some x → ∃ u, w.cell? ⟨b, off + j, none⟩ = some u ∧ P w u x
theorem RowAt.kept {α : Type} {P : World → Value → α → Prop} (hP : ∀ {w w' u x}, P w u x → Below w.heap.size w w' → P w' u x) {w w' : World} {v : Value} {xs : List α} (h : RowAt P w v xs) (hb : Below w.heap.size w w') : RowAt P w' v xs := by
  obtain ⟨A, b, off, c, h1, h2, h3, h4, h5⟩ := h
  refine ⟨A, b, off, c, h1, h2, h3, fun hl => ⟨(h4 hl).1, Nat.lt_of_lt_of_le (h4 hl).2 hb.size⟩, fun j x hj => ?_⟩
  have hlt := (h4 (by have := (List.getElem?_eq_some_iff.1 hj).1; omega)).2
  obtain ⟨u, hu, hx⟩ := h5 j x hj
  exact ⟨u, by rw [hb.cell (p := ⟨b, off + j, none⟩) hlt]; exact hu, hP hx hb⟩
theorem rowAt_nil {α : Type} (P : World → Value → α → Prop) (w : World) : RowAt P w (.slice none 0 0) ([] : List α) :=
  ⟨none, 0, 0, 0, rfl, by simp, by unfold maxLen; omega, fun h => absurd h (by simp), fun j x hj => by simp at hj⟩
/-- what is owned reads -/
theorem ownsRow_at {α : Type} {P : World → Value → α → Prop} {w : World} {B : Nat} {e : TypeId} {v : Value} {xs : List α} {us : List Value} (h : w.ownsRow B e 1 v xs.length us) (hP : ∀ (j : Nat) (x : α), xs[j]? = some x → ∃ u, us[j]? = some u ∧ P w u x) : RowAt P w v xs := by
  obtain ⟨h1, h2 | ⟨g, cap, cur, e1, e2, e3, e4, e5, e6, e7⟩⟩ := h
  · obtain rfl : xs = [] := List.eq_nil_of_length_eq_zero h2.2
    rw [h2.1]; exact rowAt_nil P w
  · refine ⟨_, g, 0, cap, e1, e4, e5, fun _ => ⟨rfl, (Array.getElem?_eq_some_iff.1 e3).1⟩, fun j x hj => ?_⟩
    have hlt := (List.getElem?_eq_some_iff.1 hj).1
    obtain ⟨u, hu, hx⟩ := hP j x hj
    refine ⟨u, ?_, hx⟩
    rw [Lib.cell_of_heap e3, Nat.zero_add]
    have : (cur.toList.take (xs.length * 1))[j]? = us[j]? := by rw [e7]
    rw [List.getElem?_take, if_pos (by omega), hu] at this
    rw [← Array.getElem?_toList, this]

/-! ### strings -/
def Own (B : Nat) (v : Value) (ls : List Row) (w : World) : Prop := w.ownsRow B 9 1 v ls.length (ls.map sv)
def StrP (w : World) (u : Value) (l : Row) : Prop := u = sv l
abbrev StrsAt (w : World) (v : Value) (ls : List Row) : Prop := RowAt StrP w v ls
theorem Own.nil (B : Nat) (w : World) : Own B (.slice none 0 0) [] w := World.ownsRow_nil w B _ 1
theorem Own.kept {w w' : World} {B : Nat} {v : Value} {ls : List Row} (h : Own B v ls w) (hb : Below w.heap.size w w') : Own B v ls w' := ownsRow_kept h hb
theorem Own.less {w : World} {B B' : Nat} {v : Value} {ls : List Row} (h : Own B v ls w) (hb : B' ≤ B) : Own B' v ls w := ownsRow_less h hb
theorem Own.at {B : Nat} {v : Value} {ls : List Row} {w : World} (h : Own B v ls w) : StrsAt w v ls :=
  ownsRow_at h fun j l hj => ⟨sv l, by rw [List.getElem?_map, hj]; rfl, rfl⟩
theorem Own.snoc {B : Nat} {v' : Value} {ls : List Row} {x : ByteArray} {w' : World} (h : w'.ownsRow B 9 1 v' (ls.length + 1) (ls.map sv ++ [.string x])) : Own B v' (ls ++ [x.data.toList]) w' := by
  unfold Own
  rw [List.map_append, List.length_append, List.map_singleton, sv_data]
  exact h
theorem strP_kept {w w' : World} {u : Value} {x : Row} (h : StrP w u x) (_ : Below w.heap.size w w') : StrP w' u x := h
theorem infoStr : (Try.prog.info? 9).map (fun i => (i.zero, i.size, i.bytes)) = some (some (.string ⟨#[]⟩), 1, 16) := by kernel_rfl

/-! ### signs: two cells each -/
def sgc : List Sg → List Value
  | [] => []
  | x :: l => .int .u8 (x.1.toNat : Int) :: .bool x.2 :: sgc l
theorem sgc_append : ∀ (a b : List Sg), sgc (a ++ b) = sgc a ++ sgc b
  | [], b => rfl
  | x :: a, b => by simp only [List.cons_append, sgc, sgc_append a b]
theorem sgc_at : ∀ (l : List Sg) (j : Nat) (x : Sg), l[j]? = some x → (sgc l)[j * 2]? = some (.int .u8 (x.1.toNat : Int)) ∧ (sgc l)[j * 2 + 1]? = some (.bool x.2)
  | [], j, x, h => by simp at h
  | y :: l, 0, x, h => by
    simp at h; subst h; exact ⟨rfl, rfl⟩
  | y :: l, j + 1, x, h => by
    have := sgc_at l j x (by simpa using h)
    rw [show (j + 1) * 2 = j * 2 + 1 + 1 by omega]
    simpa [sgc] using this
def SOwn (B : Nat) (v : Value) (l : List Sg) (w : World) : Prop := w.ownsRow B 49 2 v l.length (sgc l)
/-- signs, wherever they read -/
def SgsAt (w : World) (v : Value) (l : List Sg) : Prop :=
  ∃ (A : Option Addr) (b off c : Nat), v = .slice A l.length c ∧ l.length ≤ c ∧ c ≤ maxLen ∧ (0 < l.length → A = some ⟨b, off, none⟩ ∧ b < w.heap.size) ∧
    ∀ (j : Nat) (x : Sg), l[j]? = some x → w.cell? ⟨b, off + j * 2, none⟩ = some (.int .u8 (x.1.toNat : Int)) ∧ w.cell? ⟨b, off + j * 2 + 1, none⟩ = some (.bool x.2)
theorem SgsAt.kept {w w' : World} {v : Value} {l : List Sg} (h : SgsAt w v l) (hb : Below w.heap.size w w') : SgsAt w' v l := by
  obtain ⟨A, b, off, c, h1, h2, h3, h4, h5⟩ := h
  refine ⟨A, b, off, c, h1, h2, h3, fun hl => ⟨(h4 hl).1, Nat.lt_of_lt_of_le (h4 hl).2 hb.size⟩, fun j x hj => ?_⟩
  have hlt := (h4 (by have := (List.getElem?_eq_some_iff.1 hj).1; omega)).2
  rw [hb.cell (p := ⟨b, off + j * 2, none⟩) hlt, hb.cell (p := ⟨b, off + j * 2 + 1, none⟩) hlt]
  exact h5 j x hj
theorem SOwn.nil (B : Nat) (w : World) : SOwn B (.slice none 0 0) [] w := World.ownsRow_nil w B _ 2
theorem SOwn.kept {w w' : World} {B : Nat} {v : Value} {l : List Sg} (h : SOwn B v l w) (hb : Below w.heap.size w w') : SOwn B v l w' := ownsRow_kept h hb
theorem SOwn.less {w : World} {B B' : Nat} {v : Value} {l : List Sg} (h : SOwn B v l w) (hb : B' ≤ B) : SOwn B' v l w := ownsRow_less h hb
theorem SOwn.snoc {B : Nat} {v' : Value} {l : List Sg} {x : UInt8} {k : Bool} {w' : World} (h : w'.ownsRow B 49 2 v' (l.length + 1) (sgc l ++ [.int .u8 (x.toNat : Int), .bool k])) : SOwn B v' (l ++ [(x, k)]) w' := by
  unfold SOwn
  rw [sgc_append, List.length_append]
  exact h
theorem SOwn.at {B : Nat} {v : Value} {l : List Sg} {w : World} (h : SOwn B v l w) : SgsAt w v l := by
  obtain ⟨h1, h2 | ⟨g, cap, cur, e1, e2, e3, e4, e5, e6, e7⟩⟩ := h
  · obtain rfl : l = [] := List.eq_nil_of_length_eq_zero h2.2
    exact ⟨none, 0, 0, 0, h2.1, by simp, by unfold maxLen; omega, fun h => absurd h (by simp), fun j x hj => by simp at hj⟩
  · refine ⟨_, g, 0, cap, e1, e4, e5, fun _ => ⟨rfl, (Array.getElem?_eq_some_iff.1 e3).1⟩, fun j x hj => ?_⟩
    have hlt := (List.getElem?_eq_some_iff.1 hj).1
    obtain ⟨c1, c2⟩ := sgc_at l j x hj
    have key : ∀ i u, i < l.length * 2 → (sgc l)[i]? = some u → w.cell? ⟨g, 0 + i, none⟩ = some u := fun i u hi hu => by
      rw [Lib.cell_of_heap e3, Nat.zero_add]
      have : (cur.toList.take (l.length * 2))[i]? = (sgc l)[i]? := by rw [e7]
      rw [List.getElem?_take, if_pos hi, hu] at this
      rw [← Array.getElem?_toList, this]
    refine ⟨key _ _ (by omega) c1, ?_⟩
    have := key (j * 2 + 1) _ (by omega) c2
    rwa [← Nat.add_assoc] at this
theorem infoSg : (Try.prog.info? 49).map (fun i => (i.zero, i.size, i.bytes)) = some (some (.agg #[.int .u8 0, .bool false]), 2, 2) := by kernel_rfl
theorem infoSgs : (Try.prog.info? 23).map (fun i => (i.zero, i.size, i.bytes)) = some (some (.slice none 0 0), 1, 24) := by kernel_rfl

/-! ### rows of rows -/
/-- what an inner row must keep -/
structure Inner (e : TypeId) (α : Type) (I : Nat → Value → α → World → Prop) : Prop where
  kept : ∀ {w w' : World} {B : Nat} {v : Value} {x : α}, I B v x w → Below w.heap.size w w' → I B v x w'
  less : ∀ {w : World} {B B' : Nat} {v : Value} {x : α}, I B v x w → B' ≤ B → I B' v x w
  beside : ∀ {w w' : World} {B B' size n : Nat} {v v' : Value} {x : α} {xs : List Value}, I B v x w → w.ownsRow B' e size v' n xs → w.grownBy w' v'.ownBlock → I B v x w'
def ROwn {α : Type} (e : TypeId) (I : Nat → Value → α → World → Prop) (B : Nat) (v : Value) (xs : List α) (w : World) : Prop :=
  ∃ us : List Value, xs.length = us.length ∧ w.ownsRow B e 1 v xs.length us ∧ ∀ (j : Nat) (x : α) (u : Value), xs[j]? = some x → us[j]? = some u → I B u x w
theorem ROwn.nil {α : Type} (e : TypeId) (I : Nat → Value → α → World → Prop) (B : Nat) (w : World) : ROwn e I B (.slice none 0 0) [] w := ⟨[], rfl, World.ownsRow_nil w B _ 1, fun j x u h => by simp at h⟩
theorem ROwn.kept {α : Type} {e : TypeId} {I : Nat → Value → α → World → Prop} (hI : Inner e α I) {w w' : World} {B : Nat} {v : Value} {xs : List α} (h : ROwn e I B v xs w) (hb : Below w.heap.size w w') : ROwn e I B v xs w' := by
  obtain ⟨us, h1, h2, h3⟩ := h
  exact ⟨us, h1, ownsRow_kept h2 hb, fun j x u hx hu => hI.kept (h3 j x u hx hu) hb⟩
theorem ROwn.less {α : Type} {e : TypeId} {I : Nat → Value → α → World → Prop} (hI : Inner e α I) {w : World} {B B' : Nat} {v : Value} {xs : List α} (h : ROwn e I B v xs w) (hb : B' ≤ B) : ROwn e I B' v xs w := by
  obtain ⟨us, h1, h2, h3⟩ := h
  exact ⟨us, h1, ownsRow_less h2 hb, fun j x u hx hu => hI.less (h3 j x u hx hu) hb⟩
/-- one more -/
theorem ROwn.more {α : Type} {e : TypeId} {I : Nat → Value → α → World → Prop} (hI : Inner e α I) {B : Nat} {v v' u : Value} {xs : List α} {x : α} {us : List Value} {W w' : World} (hl : xs.length = us.length) (hrow : W.ownsRow B e 1 v xs.length us)
    (hv : ∀ (j : Nat) (x : α) (u : Value), xs[j]? = some x → us[j]? = some u → I B u x W) (hu : I B u x W) (hown' : w'.ownsRow B e 1 v' (xs.length + 1) (us ++ [u])) (hg : W.grownBy w' v.ownBlock) : ROwn e I B v' (xs ++ [x]) w' := by
  refine ⟨us ++ [u], by simp [hl], by rw [List.length_append]; exact hown', fun j q z hq hz => ?_⟩
  by_cases hj : j < xs.length
  · rw [List.getElem?_append_left hj] at hq
    rw [List.getElem?_append_left (by omega)] at hz
    exact hI.beside (hv j q z hq hz) hrow hg
  · rw [List.getElem?_append_right (by omega)] at hq
    rw [List.getElem?_append_right (by omega)] at hz
    have hj0 : j = xs.length := by
      have := (List.getElem?_eq_some_iff.1 hq).1
      simp at this; omega
    subst hj0
    rw [Nat.sub_self] at hq
    rw [hl, Nat.sub_self] at hz
    simp at hq hz
    subst hq; subst hz
    exact hI.beside hu hrow hg
theorem ROwn.at {α : Type} {e : TypeId} {I : Nat → Value → α → World → Prop} {P : World → Value → α → Prop} (hP : ∀ {B v x w}, I B v x w → P w v x) {B : Nat} {v : Value} {xs : List α} {w : World} (h : ROwn e I B v xs w) : RowAt P w v xs := by
  obtain ⟨us, h1, h2, h3⟩ := h
  exact ownsRow_at h2 fun j x hj => by
    have hlt := (List.getElem?_eq_some_iff.1 hj).1
    have hu : us[j]? = some (us[j]'(by omega)) := List.getElem?_eq_getElem _
    exact ⟨_, hu, hP (h3 j x _ hj hu)⟩
theorem innerStr : Inner 29 (List Row) Own := ⟨Own.kept, Own.less, fun h k hg => ownsRow_beside h k (by decide) hg⟩
theorem infoStrs : (Try.prog.info? 29).map (fun i => (i.zero, i.size, i.bytes)) = some (some (.slice none 0 0), 1, 24) := by kernel_rfl
abbrev LOwn (B : Nat) (v : Value) (xs : List (List Row)) (w : World) : Prop := ROwn 29 Own B v xs w
abbrev ListsAt (w : World) (v : Value) (xs : List (List Row)) : Prop := RowAt StrsAt w v xs
theorem StrsAt.kept {w w' : World} {v : Value} {ls : List Row} (h : StrsAt w v ls) (hb : Below w.heap.size w w') : StrsAt w' v ls := RowAt.kept (P := StrP) (fun h hb => strP_kept h hb) h hb
theorem ListsAt.kept {w w' : World} {v : Value} {xs : List (List Row)} (h : ListsAt w v xs) (hb : Below w.heap.size w w') : ListsAt w' v xs := RowAt.kept (P := StrsAt) (fun h hb => StrsAt.kept h hb) h hb
theorem LOwn.at {B : Nat} {v : Value} {xs : List (List Row)} {w : World} (h : LOwn B v xs w) : ListsAt w v xs := ROwn.at (P := StrsAt) (fun h => Own.at h) h
theorem innerSg : Inner 23 (List Sg) SOwn := ⟨SOwn.kept, SOwn.less, fun h k hg => ownsRow_beside h k (by decide) hg⟩
abbrev POwn (B : Nat) (v : Value) (xs : List (List Sg)) (w : World) : Prop := ROwn 23 SOwn B v xs w
abbrev PartsAt (w : World) (v : Value) (xs : List (List Sg)) : Prop := RowAt SgsAt w v xs
theorem PartsAt.kept {w w' : World} {v : Value} {xs : List (List Sg)} (h : PartsAt w v xs) (hb : Below w.heap.size w w') : PartsAt w' v xs := RowAt.kept (P := SgsAt) (fun h hb => SgsAt.kept h hb) h hb
theorem POwn.at {B : Nat} {v : Value} {xs : List (List Sg)} {w : World} (h : POwn B v xs w) : PartsAt w v xs := ROwn.at (P := SgsAt) (fun h => SOwn.at h) h
end Go.Proofs.Ytjdockjkioomiaa.Va
