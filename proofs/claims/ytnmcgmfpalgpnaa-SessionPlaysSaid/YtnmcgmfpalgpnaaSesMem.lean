/-
  HOW ROWS OF SESSIONS AND TABLES LIE IN MEMORY: rows of four cells each, of the call's own ('RsOwn') and wherever they read ('RsAt'); a table that is one cell, a slice of such rows ('Tab').
-/
import Derived.Test.YtnmcgmfpalgpnaaSesPlain
import Derived.Laws.AppendOwn
import Derived.Below
import Derived.Lib.Hide
import Derived.Lib.Builder
import Derived.Lib.IndexLaws
import Derived.BigQuiet
import Derived.KernelRfl
import Derived.OwnWalk
import Derived.OwnWalkIn
import Derived.OneCell
import Derived.Laws.OwnMore
import Derived.WalkKit
set_option linter.unusedVariables false
namespace Go.Proofs.Ytnmcgmfpalgpnaa.Se
open Go.Lib Go.RowKit

theorem below_then {a b c : World} (h1 : Below a.heap.size a b) (h2 : Below b.heap.size b c) : Below a.heap.size a c := h1.trans (h2.mono h1.size)
theorem below_drewN {B : Nat} {a w : World} (n : Nat) (h : Below B a w) : Below B a (w.drewN n) := ⟨h.os, h.tape, h.output, h.size, h.block⟩
theorem ownsRow_kept {w w' : World} {B : Nat} {e : TypeId} {size : Nat} {v : Value} {n : Nat} {xs : List Value} (h : w.ownsRow B e size v n xs) (hb : Below w.heap.size w w') : w'.ownsRow B e size v n xs := by
  refine ⟨h.1, ?_⟩
  rcases h.2 with h | ⟨g, cap, cur, e1, e2, e3, e4⟩
  · exact .inl h
  · exact .inr ⟨g, cap, cur, e1, e2, by rw [hb.block g (Array.getElem?_eq_some_iff.1 e3).1]; exact e3, e4⟩
theorem ownsRow_less {w : World} {B B' : Nat} {e : TypeId} {size : Nat} {v : Value} {n : Nat} {xs : List Value} (h : w.ownsRow B e size v n xs) (hb : B' ≤ B) : w.ownsRow B' e size v n xs := by
  refine ⟨h.1, ?_⟩
  rcases h.2 with h | ⟨g, cap, cur, e1, e2, e3, e4⟩
  · exact .inl h
  · exact .inr ⟨g, cap, cur, e1, Nat.le_trans hb e2, e3, e4⟩
theorem ownsRow_form {w : World} {B : Nat} {e : TypeId} {size : Nat} {v : Value} {n : Nat} {xs : List Value} (h : w.ownsRow B e size v n xs) : ∃ ao c, v = .slice ao n c := by
  rcases h.2 with ⟨hv, hn⟩ | ⟨g, cap, cur, e1, _⟩
  · exact ⟨none, 0, by rw [hv, hn]⟩
  · exact ⟨_, _, e1⟩
/-- a block of the call's own row that is left by what leaves its block -/
theorem ownsRow_left {w w' : World} {B : Nat} {e : TypeId} {size : Nat} {v : Value} {n : Nat} {xs : List Value} (h : w.ownsRow B e size v n xs) (hk : ∀ g, v.ownBlock = some g → w'.heap[g]? = w.heap[g]?) : w'.ownsRow B e size v n xs := by
  refine ⟨h.1, ?_⟩
  rcases h.2 with h | ⟨g, cap, cur, e1, e2, e3, e4⟩
  · exact .inl h
  · exact .inr ⟨g, cap, cur, e1, e2, by rw [hk g (by rw [e1]; rfl)]; exact e3, e4⟩

def iv (z : Int) : Value := .int .i64 z
section
variable {α : Type} (em : α → Value)
def rc : Tb α → List Value
  | [] => []
  | r :: t => .int .i64 r.id :: .int .i64 r.last :: .int .i64 r.used :: em r.x :: rc t
theorem rc_app : ∀ (a b : Tb α), rc em (a ++ b) = rc em a ++ rc em b
  | [], _ => rfl
  | r :: a, b => by simp only [List.cons_append, rc, rc_app a b]
theorem rc_len : ∀ (t : Tb α), (rc em t).length = t.length * 4
  | [] => rfl
  | r :: t => by
    have := rc_len t
    simp only [rc, List.length_cons]; omega
theorem rc_at : ∀ (t : Tb α) (j : Nat) (r : Ro α), t[j]? = some r →
    (rc em t)[j * 4]? = some (.int .i64 r.id) ∧ (rc em t)[j * 4 + 1]? = some (.int .i64 r.last) ∧ (rc em t)[j * 4 + 2]? = some (.int .i64 r.used) ∧ (rc em t)[j * 4 + 3]? = some (em r.x)
  | [], j, p, h => by simp at h
  | q :: ps, 0, p, h => by
    simp at h; subst h
    exact ⟨rfl, rfl, rfl, rfl⟩
  | q :: ps, j + 1, p, h => by
    have := rc_at ps j p (by simpa using h)
    rw [show (j + 1) * 4 = j * 4 + 1 + 1 + 1 + 1 by omega]
    simpa [rc] using this
/-- a slice of the call's own that reads as these rows -/
def RsOwn (e : TypeId) (B : Nat) (v : Value) (t : Tb α) (w : World) : Prop := w.ownsRow B e 4 v t.length (rc em t)
theorem RsOwn.nil (e : TypeId) (B : Nat) (w : World) : RsOwn em e B (.slice none 0 0) [] w := World.ownsRow_nil w B _ 4
/-- one row's cells -/
def RoCells (w : World) (b o : Nat) (r : Ro α) : Prop := w.cell? ⟨b, o, none⟩ = some (.int .i64 r.id) ∧ w.cell? ⟨b, o + 1, none⟩ = some (.int .i64 r.last) ∧ w.cell? ⟨b, o + 2, none⟩ = some (.int .i64 r.used) ∧ w.cell? ⟨b, o + 3, none⟩ = some (em r.x)
theorem RoCells.kept {w w' : World} {b o : Nat} {r : Ro α} (h : RoCells em w b o r) (hlt : b < w.heap.size) (hb : Below w.heap.size w w') : RoCells em w' b o r := by
  unfold RoCells
  rw [hb.cell (p := ⟨b, o, none⟩) hlt, hb.cell (p := ⟨b, o + 1, none⟩) hlt, hb.cell (p := ⟨b, o + 2, none⟩) hlt, hb.cell (p := ⟨b, o + 3, none⟩) hlt]
  exact h
/-- rows, wherever they read -/
def RsAt (w : World) (v : Value) (t : Tb α) : Prop :=
  ∃ (A : Option Addr) (b off c : Nat), v = .slice A t.length c ∧ t.length ≤ c ∧ c ≤ maxLen ∧ (0 < t.length → A = some ⟨b, off, none⟩ ∧ b < w.heap.size) ∧
    ∀ (j : Nat) (r : Ro α), t[j]? = some r → RoCells em w b (off + j * 4) r
theorem RsAt.nil (w : World) (A : Option Addr) : RsAt em w (.slice A 0 0) [] := ⟨A, 0, 0, 0, rfl, Nat.le_refl _, Nat.zero_le _, fun h => absurd h (by simp), fun j p h => by simp at h⟩
theorem RsAt.kept {em : α → Value} {w w' : World} {v : Value} {t : Tb α} (h : RsAt em w v t) (hb : Below w.heap.size w w') : RsAt em w' v t := by
  obtain ⟨A, b, off, c, h1, h2, h3, h4, h5⟩ := h
  exact ⟨A, b, off, c, h1, h2, h3, fun hl => ⟨(h4 hl).1, Nat.lt_of_lt_of_le (h4 hl).2 hb.size⟩, fun j p hj => (h5 j p hj).kept em (h4 (by have := (List.getElem?_eq_some_iff.1 hj).1; omega)).2 hb⟩
theorem RsOwn.at {em : α → Value} {e : TypeId} {B : Nat} {v : Value} {t : Tb α} {w : World} (h : RsOwn em e B v t w) : RsAt em w v t := by
  obtain ⟨h1, h2 | ⟨g, cap, cur, e1, e2, e3, e4, e5, e6, e7⟩⟩ := h
  · obtain rfl : t = [] := List.eq_nil_of_length_eq_zero h2.2
    exact ⟨none, 0, 0, 0, h2.1, by simp, by unfold maxLen; omega, fun h => absurd h (by simp), fun j l hj => by simp at hj⟩
  · refine ⟨_, g, 0, cap, e1, e4, e5, fun _ => ⟨rfl, (Array.getElem?_eq_some_iff.1 e3).1⟩, fun j p hj => ?_⟩
    have hlt := (List.getElem?_eq_some_iff.1 hj).1
    obtain ⟨c0, c1, c2, c3⟩ := rc_at em t j p hj
    have key : ∀ i x, i < t.length * 4 → (rc em t)[i]? = some x → w.cell? ⟨g, 0 + i, none⟩ = some x := fun i x hi hx => by
      rw [Lib.cell_of_heap e3, Nat.zero_add]
      have : (cur.toList.take (t.length * 4))[i]? = (rc em t)[i]? := by rw [e7]
      rw [List.getElem?_take, if_pos hi, hx] at this
      rw [← Array.getElem?_toList, this]
    have k1 := key (j * 4 + 1) _ (by omega) c1
    have k2 := key (j * 4 + 2) _ (by omega) c2
    have k3 := key (j * 4 + 3) _ (by omega) c3
    rw [← Nat.add_assoc] at k1 k2 k3
    exact ⟨key _ _ (by omega) c0, k1, k2, k3⟩
/-- a table in block b: one cell, v, a slice of the call's own of these rows -/
structure Tab (ty e : TypeId) (B b : Nat) (v : Value) (t : Tb α) (w : World) : Prop where
  low : B ≤ b
  blk : w.heap[b]? = some (.cells #[v] ty (0, 0))
  own : RsOwn em e B v t w
  apart : v.ownBlock ≠ some b
/-- what a call that works on this table leaves: all blocks but its two -/
structure Else (b : Nat) (v : Value) (w w' : World) : Prop where
  os : w'.os = w.os
  tape : w'.tape = w.tape
  output : w'.output = w.output
  size : w.heap.size ≤ w'.heap.size
  block : ∀ k, k < w.heap.size → k ≠ b → v.ownBlock ≠ some k → w'.heap[k]? = w.heap[k]?
theorem Else.of_below {b : Nat} {v : Value} {w w' : World} (h : Below w.heap.size w w') : Else b v w w' := ⟨h.os, h.tape, h.output, h.size, fun k hk _ _ => h.block k hk⟩
theorem Else.below {b B : Nat} {v : Value} {a w w' : World} (h : Else b v w w') (ha : Below B a w) (hb : B ≤ b) (hv : ∀ k, v.ownBlock = some k → B ≤ k) (hB : B ≤ w.heap.size) : Below B a w' :=
  ⟨h.os.trans ha.os, h.tape.trans ha.tape, h.output.trans ha.output, Nat.le_trans ha.size h.size, fun k hk => by rw [h.block k (by omega) (by omega) (fun e => by have := hv k e; omega), ha.block k hk]⟩
theorem Tab.lt {em : α → Value} {ty e : TypeId} {B b : Nat} {v : Value} {t : Tb α} {w : World} (h : Tab em ty e B b v t w) : b < w.heap.size := (Array.getElem?_eq_some_iff.1 h.blk).1
theorem Tab.kept {em : α → Value} {ty e : TypeId} {B b : Nat} {v : Value} {t : Tb α} {w w' : World} (h : Tab em ty e B b v t w) (hb : Below w.heap.size w w') : Tab em ty e B b v t w' :=
  ⟨h.low, by rw [hb.block b h.lt]; exact h.blk, ownsRow_kept h.own hb, h.apart⟩
theorem Tab.less {em : α → Value} {ty e : TypeId} {B B' b : Nat} {v : Value} {t : Tb α} {w : World} (h : Tab em ty e B b v t w) (hb : B' ≤ B) : Tab em ty e B' b v t w := ⟨Nat.le_trans hb h.low, h.blk, ownsRow_less h.own hb, h.apart⟩
theorem Tab.ownLt {em : α → Value} {ty e : TypeId} {B b : Nat} {v : Value} {t : Tb α} {w : World} (h : Tab em ty e B b v t w) : ∀ k, v.ownBlock = some k → B ≤ k ∧ k < w.heap.size := fun k hk => h.own.lt k hk
/-- another table is left -/
theorem Tab.beside {em : α → Value} {ty e : TypeId} {B b : Nat} {v : Value} {t : Tb α} {w w' : World} (h : Tab em ty e B b v t w) {b2 : Nat} {v2 : Value} (hE : Else b2 v2 w w') (h1 : b ≠ b2) (h2 : v2.ownBlock ≠ some b) (h3 : v.ownBlock ≠ some b2) (h4 : ∀ k, v.ownBlock = some k → v2.ownBlock ≠ some k) : Tab em ty e B b v t w' :=
  ⟨h.low, by rw [hE.block b h.lt h1 h2]; exact h.blk, ownsRow_left h.own fun g hg => hE.block g (h.ownLt g hg).2 (fun e => h3 (e ▸ hg)) (h4 g hg), h.apart⟩
end

/-! ### one row more, of a row of strings -/
theorem infoRS : (Try.prog.info? 42).map (fun i => (i.zero, i.size, i.bytes)) = some (some (.agg #[.int .i64 0, .int .i64 0, .int .i64 0, .string ⟨#[]⟩]), 4, 40) := by kernel_rfl
theorem info_parts {t : TypeId} {z : Value} {n m : Nat} (h : (Try.prog.info? t).map (fun i => (i.zero, i.size, i.bytes)) = some (some z, n, m)) : ∃ i0, Try.prog.info? t = some i0 ∧ i0.zero = some z ∧ i0.size = n ∧ i0.bytes = m := by
  obtain ⟨i, h1, h2⟩ := Option.map_eq_some_iff.1 h
  simp only [Prod.mk.injEq] at h2
  exact ⟨i, h1, h2.1, h2.2.1, h2.2.2⟩
abbrev eS (x : ByteArray) : Value := .string x
/-- what is left where a row of the call's own is written -/
def Left (w0 : World) (base : Nat) (w' : World) : Prop := ∀ (B : Nat) (A : World), Below B A w0 → B ≤ base → B ≤ w0.heap.size → Below B A w'
theorem left_of {w0 w' : World} {base : Nat} {e : TypeId} {size n : Nat} {v : Value} {xs : List Value} {o : Obj} (hown : w0.ownsRow base e size v n xs) (hg : (w0.alloc o).grownBy w' v.ownBlock) : Left w0 base w' :=
  fun B A hb h1 h2 => (hb.alloc h2 o).grown hg (by simp; omega) (fun k hk => Nat.le_trans h1 (hown.lt k hk).1)
theorem append_rs {w0 : World} {ops : Array Oper} {rest : List Oper} {o : Oper} {a : Act} {Q : Exit → Act → World → Prop} (i l u : Int) (x : ByteArray)
    (hgd : o.guard = none) (s xo : Operand) (ho : o.op = .call { callee := .builtin .append, args := #[s, xo], argTypes := #[24, 24] }) (base : Nat) (v : Value) (t : Tb ByteArray) (g : Nat) (hgz : g = w0.heap.size) (hs : a.eval s = v) (hx : a.eval xo = .slice (some ⟨g, 0, none⟩) 1 1)
    (hown : RsOwn eS 42 base v t w0) (hl : t.length ≤ 1099511627776) (hbase : base ≤ w0.heap.size)
    (h : ∀ v' w', RsOwn eS 42 base v' (t ++ [⟨i, l, u, x⟩]) w' → (w0.alloc (.cells #[.int .i64 i, .int .i64 l, .int .i64 u, .string x] 42)).grownBy w' v.ownBlock → wpList Try.prog ops Q rest (a.put o.dst v') w') :
    wpList Try.prog ops Q (o :: rest) a (w0.alloc (.cells #[.int .i64 i, .int .i64 l, .int .i64 u, .string x] 42)) := by
  obtain ⟨i0, hi, hz0, hz1, hz2⟩ := info_parts infoRS
  subst hgz
  have hrow : w0.ownsRow base 42 4 v t.length (rc eS t) := hown
  refine wpList_append_own _ hgd s xo 24 ho base 42 i0 (.agg #[.int .i64 0, .int .i64 0, .int .i64 0, .string ⟨#[]⟩]) 4 40 Try.underlying24 hi hz0 hz1 hz2 rfl (by decide) v t.length (rc eS t) hs (World.ownsRow.alloc hrow _) ⟨w0.heap.size, 0, none⟩ 1 1 [.int .i64 i, .int .i64 l, .int .i64 u, .string x] hx rfl (fun j u hj => ?_) (fun u hu => ?_) (by unfold maxLen; omega) (by omega) (by simp; omega)
    (fun v' w' h5 h6 _ => h v' w' ?_ h6)
  · match j, hj with
    | 0, hj => simp at hj; subst hj; simp [Addr.add]
    | 1, hj => simp at hj; subst hj; simp [Addr.add]
    | 2, hj => simp at hj; subst hj; simp [Addr.add]
    | 3, hj => simp at hj; subst hj; simp [Addr.add]
  · simp at hu
    rcases hu with rfl | rfl | rfl | rfl <;> rfl
  · unfold RsOwn
    rw [rc_app, List.length_append]
    exact h5
/-- behind a call that works on the table -/
def After {α : Type} (em : α → Value) (ty e : TypeId) (B b : Nat) (v : Value) (t' : Tb α) (w w' : World) : Prop :=
  ∃ v', Tab em ty e B b v' t' w' ∧ (∀ k, v'.ownBlock = some k → v.ownBlock = some k ∨ w.heap.size ≤ k) ∧ Else b v w w'
theorem After.same {α : Type} {em : α → Value} {ty e : TypeId} {B b : Nat} {v : Value} {t : Tb α} {w w' : World} (h : Tab em ty e B b v t w) (hb : Below w.heap.size w w') : After em ty e B b v t w w' :=
  ⟨v, h.kept hb, fun k hk => .inl hk, Else.of_below hb⟩
/-- a new row laid behind the table's cell -/
theorem After.laid {α : Type} {em : α → Value} {ty e : TypeId} {B b : Nat} {v v' : Value} {t t' : Tb α} {w w' : World} (h : Tab em ty e B b v t w) (hb : Below w.heap.size w w') (hn : RsOwn em e w.heap.size v' t' w') (hB : B ≤ w.heap.size) : After em ty e B b v t' w (w'.setCell ⟨b, 0, none⟩ v') := by
  have hlt := h.lt
  have hk := h.kept hb
  have hv' : v'.ownBlock ≠ some b := fun e => by have := (hn.lt b e).1; omega
  refine ⟨v', ⟨h.low, ?_, ?_, hv'⟩, fun k hk => .inr (hn.lt k hk).1, ⟨hb.os, hb.tape, hb.output, ?_, fun k hkl h1 h2 => ?_⟩⟩
  · have := hk.blk
    exact one_setCell this
  · exact ownsRow_less (ownsRow_left hn fun g hg => Below.heap_setCell w' ⟨b, 0, none⟩ v' g (fun e => hv' (by rw [hg, e]))) hB
  · exact Nat.le_trans hb.size (by simp)
  · rw [Below.heap_setCell w' ⟨b, 0, none⟩ v' k h1]
    exact hb.block k hkl

theorem rc_ones {α : Type} {em : α → Value} (h1 : ∀ x, (em x).oneCell' = true) : ∀ (t : Tb α), ∀ u ∈ rc em t, u.oneCell' = true
  | [], u, h => by cases h
  | r :: t, u, h => by
    simp only [rc, List.mem_cons] at h
    rcases h with rfl | rfl | rfl | rfl | h
    · rfl
    · rfl
    · rfl
    · exact h1 _
    · exact rc_ones h1 t u h
/-- the cells of rows, one by one -/
theorem rc_cell {α : Type} {em : α → Value} {w : World} {b off : Nat} {t : Tb α} (h : ∀ (j : Nat) (r : Ro α), t[j]? = some r → RoCells em w b (off + j * 4) r) {j : Nat} {u : Value} (hj : (rc em t)[j]? = some u) : w.cell? ⟨b, off + j, none⟩ = some u := by
  have hl := (List.getElem?_eq_some_iff.1 hj).1
  rw [rc_len] at hl
  obtain ⟨r, hr⟩ : ∃ r, t[j / 4]? = some r := ⟨_, List.getElem?_eq_getElem (by omega)⟩
  obtain ⟨c0, c1, c2, c3⟩ := h _ r hr
  obtain ⟨d0, d1, d2, d3⟩ := rc_at em t _ r hr
  have h4 : j % 4 < 4 := Nat.mod_lt _ (by decide)
  rcases (by omega : j % 4 = 0 ∨ j % 4 = 1 ∨ j % 4 = 2 ∨ j % 4 = 3) with e | e | e | e
  · have : j = j / 4 * 4 := by omega
    rw [this] at hj ⊢
    rw [d0] at hj; cases hj
    exact c0
  · have : j = j / 4 * 4 + 1 := by omega
    rw [this] at hj ⊢
    rw [d1] at hj; cases hj
    exact c1
  · have : j = j / 4 * 4 + 2 := by omega
    rw [this] at hj ⊢
    rw [d2] at hj; cases hj
    exact c2
  · have : j = j / 4 * 4 + 3 := by omega
    rw [this] at hj ⊢
    rw [d3] at hj; cases hj
    exact c3
/-- append onto an empty row of the call's own, of rows that lie wherever -/
theorem append_all_rs {w : World} {ops : Array Oper} {rest : List Oper} {o : Oper} {a : Act} {Q : Exit → Act → World → Prop} (hgd : o.guard = none) (s x : Operand)
    (ho : o.op = .call { callee := .builtin .append, args := #[s, x], argTypes := #[24, 24] }) (base : Nat) (v xv : Value) (t : Tb ByteArray) (hs : a.eval s = v) (hx : a.eval x = xv)
    (hown : w.ownsRow base 42 4 v 0 []) (hS : RsAt eS w xv t) (hls : t.length ≤ 1099511627776) (hbase : base ≤ w.heap.size)
    (h : ∀ v' w', RsOwn eS 42 base v' t w' → w.grownBy w' v.ownBlock → wpList Try.prog ops Q rest (a.put o.dst v') w') : wpList Try.prog ops Q (o :: rest) a w := by
  obtain ⟨i0, hi, hz0, hz1, hz2⟩ := info_parts infoRS
  obtain ⟨A, b, off, c, rfl, h1, h2, h3, h4⟩ := hS
  cases A with
  | none =>
    have hl : t = [] := by
      cases t with
      | nil => rfl
      | cons y t =>
        obtain ⟨h5, _⟩ := h3 (by simp)
        cases h5
    subst hl
    refine wpList_plain hgd fun K hK => ?_
    have hrun : (Builtin.append_ #[24, 24] o.type #[v, .slice none 0 c]).run Try.prog w = .ok v w := by
      rcases hown.2 with ⟨rfl, _⟩ | ⟨g, cap, cur, rfl, _, _, hnc, _⟩
      · simp [Builtin.append_, run_underlying Try.underlying24, sizeOf, typeInfo, hi, Builtin.lenOf, Builtin.firstCells]
      · simp [Builtin.append_, run_underlying Try.underlying24, sizeOf, typeInfo, hi, Builtin.lenOf, Builtin.firstCells, storeCells]
    have hk := hK _ _ (h v w hown (World.grownBy.refl w _))
    unfold Oper.wp execOp
    simp only [ho, resolve, invoke, builtin, Sem.run_bind, Sem.run_pure, Result.andThen_ok, List.map_toArray, List.map_cons, List.map_nil, hs, hx]
    rw [show (List.length ([] : Tb ByteArray)) = 0 from rfl, hrun]
    exact hk
  | some ad =>
    refine wpList_append_own _ hgd s x 24 ho base 42 i0 (.agg #[.int .i64 0, .int .i64 0, .int .i64 0, .string ⟨#[]⟩]) 4 40 Try.underlying24 hi hz0 hz1 hz2 rfl (by decide) v 0 [] hs hown ad t.length c (rc eS t) hx (rc_len eS t) (fun j u hj => ?_) (rc_ones (fun _ => rfl) t) (by unfold maxLen; omega) (by omega) hbase (fun v' w' h5 h6 _ => h v' w' ?_ h6)
    · have hl := (List.getElem?_eq_some_iff.1 hj).1
      rw [rc_len] at hl
      obtain ⟨he, _⟩ := h3 (by omega)
      obtain rfl := Option.some.inj he
      have := rc_cell h4 hj
      unfold Addr.add
      by_cases hj0 : j = 0
      · subst hj0; simpa using this
      · rw [if_neg hj0]; exact this
    · unfold RsOwn
      rw [Nat.zero_add, List.nil_append] at h5
      exact h5

/-- a slice literal of no rows -/
theorem lit_nil {B : Nat} {w : World} (e : TypeId) (hB : B ≤ w.heap.size) : (w.alloc (.cells #[] e)).ownsRow B e 4 (.slice (some ⟨w.heap.size, 0, none⟩) 0 0) 0 [] :=
  ⟨rfl, .inr ⟨w.heap.size, 0, #[], rfl, hB, heap_alloc_new _ _, Nat.le_refl _, Nat.zero_le _, rfl, rfl⟩⟩

theorem rc_set {α : Type} (em : α → Value) : ∀ (t : Tb α) (i : Nat) (r : Ro α) (l u : Int) (x : α), t[i]? = some r → (((rc em t).set (i * 4 + 1) (.int .i64 l)).set (i * 4 + 2) (.int .i64 u)).set (i * 4 + 3) (em x) = rc em (t.set i ⟨r.id, l, u, x⟩)
  | [], i, r, l, u, x, h => by simp at h
  | q :: t, 0, r, l, u, x, h => by simp at h; subst h; rfl
  | q :: t, i + 1, r, l, u, x, h => by
    have := rc_set em t i r l u x (by simpa using h)
    rw [show (i + 1) * 4 = i * 4 + 1 + 1 + 1 + 1 by omega]
    simp only [rc, List.set_cons_succ]
    rw [this]
/-- a table's row in place written: the three worlds -/
theorem Tab.stored {α : Type} {em : α → Value} {ty e : TypeId} {B b g c n : Nat} {t : Tb α} {w : World} (h : Tab em ty e B b (.slice (some ⟨g, 0, none⟩) n c) t w) (hn : t.length = n) {i : Nat} {r : Ro α} (hr : t[i]? = some r) (l u : Int) (x : α) :
    Tab em ty e B b (.slice (some ⟨g, 0, none⟩) n c) (t.set i ⟨r.id, l, u, x⟩) (((w.setCell ⟨g, i * 4 + 1, none⟩ (.int .i64 l)).setCell ⟨g, i * 4 + 2, none⟩ (.int .i64 u)).setCell ⟨g, i * 4 + 3, none⟩ (em x)) ∧
    Else b (.slice (some ⟨g, 0, none⟩) n c) w (((w.setCell ⟨g, i * 4 + 1, none⟩ (.int .i64 l)).setCell ⟨g, i * 4 + 2, none⟩ (.int .i64 u)).setCell ⟨g, i * 4 + 3, none⟩ (em x)) := by
  subst hn
  have h0 : w.ownsRow B e 4 (.slice (some ⟨g, 0, none⟩) t.length c) t.length (rc em t) := h.own
  have hgb : g ≠ b := fun e => h.apart (by rw [e]; rfl)
  obtain ⟨h1, k1⟩ := h0.stored (i * 4 + 1) (.int .i64 l)
  obtain ⟨h2, k2⟩ := h1.stored (i * 4 + 2) (.int .i64 u)
  obtain ⟨h3, k3⟩ := h2.stored (i * 4 + 3) (em x)
  rw [rc_set em t i r l u x hr] at h3
  have hE : Else b (.slice (some ⟨g, 0, none⟩) t.length c) w (((w.setCell ⟨g, i * 4 + 1, none⟩ (.int .i64 l)).setCell ⟨g, i * 4 + 2, none⟩ (.int .i64 u)).setCell ⟨g, i * 4 + 3, none⟩ (em x)) := by
    refine ⟨rfl, rfl, rfl, by simp, fun k _ _ hk => ?_⟩
    have hk' : k ≠ g := fun e => hk (by rw [e]; rfl)
    rw [Below.heap_setCell _ _ _ k hk', Below.heap_setCell _ _ _ k hk', Below.heap_setCell _ _ _ k hk']
  refine ⟨⟨h.low, ?_, ?_, h.apart⟩, hE⟩
  · rw [Below.heap_setCell _ _ _ b (fun e => hgb e.symm), Below.heap_setCell _ _ _ b (fun e => hgb e.symm), Below.heap_setCell _ _ _ b (fun e => hgb e.symm)]
    exact h.blk
  · show World.ownsRow _ B e 4 _ (t.set i _).length _
    rw [List.length_set]
    exact h3
theorem Else.trans {b : Nat} {v : Value} {a w w' : World} (h : Else b v a w) (k : Else b v w w') : Else b v a w' :=
  ⟨k.os.trans h.os, k.tape.trans h.tape, k.output.trans h.output, Nat.le_trans h.size k.size, fun i hi h1 h2 => by rw [k.block i (Nat.lt_of_lt_of_le hi h.size) h1 h2, h.block i hi h1 h2]⟩

theorem Tab.cells {α : Type} {em : α → Value} {ty e : TypeId} {B b g c n : Nat} {t : Tb α} {w : World} (h : Tab em ty e B b (.slice (some ⟨g, 0, none⟩) n c) t w) (hn : t.length = n) {i : Nat} {r : Ro α} (hr : t[i]? = some r) :
    RoCells em w g (i * 4) r ∧ ∀ j, w.frozen? ⟨g, j, none⟩ = false := by
  subst hn
  have h0 : w.ownsRow B e 4 (.slice (some ⟨g, 0, none⟩) t.length c) t.length (rc em t) := h.own
  have hl := (List.getElem?_eq_some_iff.1 hr).1
  obtain ⟨c0, c1, c2, c3⟩ := rc_at em t i r hr
  refine ⟨⟨?_, ?_, ?_, ?_⟩, fun j => h0.frozenAt j⟩
  · rw [h0.cellAt _ (by omega)]; exact c0
  · rw [h0.cellAt _ (by omega)]; exact c1
  · rw [h0.cellAt _ (by omega)]; exact c2
  · rw [h0.cellAt _ (by omega)]; exact c3
end Go.Proofs.Ytnmcgmfpalgpnaa.Se
