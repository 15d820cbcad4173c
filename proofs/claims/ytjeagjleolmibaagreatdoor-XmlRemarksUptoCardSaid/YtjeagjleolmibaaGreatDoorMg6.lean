import Derived.Test.YtjeagjleolmibaaGreatDoorMg2
import Derived.Test.YtjeagjleolmibaaGreatDoorMg5
import Derived.Laws.AppendOwn
import Derived.Lib.Builder
import Derived.Below
import Derived.Lib.Hide
import Derived.Lib.IndexLaws
import Derived.KernelRfl
import Derived.OwnWalk
import Derived.WalkKit
import Derived.Lib.AppendStr
import Derived.Lib.UnsafeStr
import Derived.Lib.AppendIntMem
import Derived.Laws.OwnMore
import Derived.Laws.BytesArg
import Derived.Laws.IdiomStrings

/-
  HOW PIECES LIE IN MEMORY: in rows of the call's own ('PsOwn'), and wherever they read ('PcsAt').
-/
set_option linter.unusedVariables false
namespace Go.Proofs.YtjeagjleolmibaaGreatDoor.Xm
open Go.Lib Go.RowKit

theorem below_then {a b c : World} (h1 : Below a.heap.size a b) (h2 : Below b.heap.size b c) : Below a.heap.size a c := h1.trans (h2.mono h1.size)
theorem below_drewN {B : Nat} {a w : World} (n : Nat) (h : Below B a w) : Below B a (w.drewN n) := ⟨h.os, h.tape, h.output, h.size, h.block⟩
def sv (l : Row) : Value := .string ⟨l.toArray⟩
theorem sv_data (s : ByteArray) : sv s.data.toList = .string s := by unfold sv; rw [Lib.mk_data]
theorem sv_some (l : Row) : ∃ x : ByteArray, sv l = .string x ∧ x.data.toList = l := ⟨⟨l.toArray⟩, rfl, by simp⟩
theorem ownsRow_kept {w w' : World} {B : Nat} {e : TypeId} {size : Nat} {v : Value} {n : Nat} {xs : List Value} (h : w.ownsRow B e size v n xs) (hb : Below w.heap.size w w') : w'.ownsRow B e size v n xs := by
  refine ⟨h.1, ?_⟩
  rcases h.2 with h | ⟨g, cap, cur, e1, e2, e3, e4⟩
  · exact .inl h
  · exact .inr ⟨g, cap, cur, e1, e2, by rw [hb.block g (Array.getElem?_eq_some_iff.1 e3).1]; exact e3, e4⟩
theorem ownsRow_less {w : World} {B B' : Nat} {e : TypeId} {size : Nat} {v : Value} {n : Nat} {xs : List Value} (h : w.ownsRow B e size v n xs) (hb : B' ≤ B) : w.ownsRow B' e size v n xs := by
  refine ⟨h.1, ?_⟩
  rcases h.2 with h | ⟨g, cap, cur, e1, e2, e3, e4⟩
  · exact .inl h
  · exact .inr ⟨g, cap, cur, e1, Nat.le_trans hb e2, e3, e4⟩
theorem ownsRow_form {w : World} {B : Nat} {e : TypeId} {size : Nat} {v : Value} {n : Nat} {xs : List Value} (h : w.ownsRow B e size v n xs) : ∃ ao c, v = .slice ao n c := by
  rcases h.2 with ⟨hv, hn⟩ | ⟨g, cap, cur, e1, _⟩
  · exact ⟨none, 0, by rw [hv, hn]⟩
  · exact ⟨_, _, e1⟩
theorem info_parts {P : Program} {T : TypeId} {z : Value} {n by' : Nat} (h : (P.info? T).map (fun i => (i.zero, i.size, i.bytes)) = some (some z, n, by')) : ∃ i, P.info? T = some i ∧ i.zero = some z ∧ i.size = n ∧ i.bytes = by' := by
  cases hi : P.info? T with
  | none => rw [hi] at h; cases h
  | some i =>
    rw [hi] at h
    simp only [Option.map_some, Option.some.injEq, Prod.mk.injEq] at h
    exact ⟨i, rfl, h.1, h.2.1, h.2.2⟩
def zeroPc : Value := .agg #[.int .i64 0, .int .i64 0, .string ⟨#[]⟩, .string ⟨#[]⟩]
theorem infoPc : (Tryz.prog.info? 37).map (fun i => (i.zero, i.size, i.bytes)) = some (some zeroPc, 4, 48) := by kernel_rfl
/-- a piece by value -/
def pv (p : Pc) : Value := .agg #[.int .i64 p.kind, .int .i64 p.space, sv p.name, sv p.text]
def pcells : List Pc → List Value
  | [] => []
  | p :: ps => .int .i64 p.kind :: .int .i64 p.space :: sv p.name :: sv p.text :: pcells ps
theorem pcells_snoc : ∀ (ps : List Pc) (p : Pc), pcells (ps ++ [p]) = pcells ps ++ [.int .i64 p.kind, .int .i64 p.space, sv p.name, sv p.text]
  | [], _ => rfl
  | q :: ps, p => by
    have := pcells_snoc ps p
    simp only [List.cons_append, pcells, this]
theorem pcells_len : ∀ (ps : List Pc), (pcells ps).length = ps.length * 4
  | [] => rfl
  | p :: ps => by
    have := pcells_len ps
    simp only [pcells, List.length_cons]; omega
theorem pcells_at : ∀ (ps : List Pc) (j : Nat) (p : Pc), ps[j]? = some p →
    (pcells ps)[j * 4]? = some (.int .i64 p.kind) ∧ (pcells ps)[j * 4 + 1]? = some (.int .i64 p.space) ∧ (pcells ps)[j * 4 + 2]? = some (sv p.name) ∧ (pcells ps)[j * 4 + 3]? = some (sv p.text)
  | [], j, p, h => by simp at h
  | q :: ps, 0, p, h => by
    simp at h; subst h
    exact ⟨rfl, rfl, rfl, rfl⟩
  | q :: ps, j + 1, p, h => by
    have := pcells_at ps j p (by simpa using h)
    rw [show (j + 1) * 4 = j * 4 + 1 + 1 + 1 + 1 by omega]
    simpa [pcells] using this
theorem pcells_take : ∀ (ps : List Pc) (k : Nat), (pcells ps).take (k * 4) = pcells (ps.take k)
  | [], k => by simp [pcells]
  | p :: ps, 0 => rfl
  | p :: ps, k + 1 => by
    rw [show (k + 1) * 4 = k * 4 + 1 + 1 + 1 + 1 by omega]
    simp only [pcells, List.take_succ_cons, pcells_take ps k]
/-- a slice of the call's own that reads as these pieces -/
def PsOwn (B : Nat) (v : Value) (ps : List Pc) (w : World) : Prop := w.ownsRow B 37 4 v ps.length (pcells ps)
theorem PsOwn.nil (B : Nat) (w : World) : PsOwn B (.slice none 0 0) [] w := World.ownsRow_nil w B _ 4
theorem PsOwn.kept {w w' : World} {B : Nat} {v : Value} {ps : List Pc} (h : PsOwn B v ps w) (hb : Below w.heap.size w w') : PsOwn B v ps w' := ownsRow_kept h hb
theorem PsOwn.less {w : World} {B B' : Nat} {v : Value} {ps : List Pc} (h : PsOwn B v ps w) (hb : B' ≤ B) : PsOwn B' v ps w := ownsRow_less h hb
/-- one piece's cells -/
def PcCells (w : World) (b o : Nat) (p : Pc) : Prop := w.cell? ⟨b, o, none⟩ = some (.int .i64 p.kind) ∧ w.cell? ⟨b, o + 1, none⟩ = some (.int .i64 p.space) ∧ w.cell? ⟨b, o + 2, none⟩ = some (sv p.name) ∧ w.cell? ⟨b, o + 3, none⟩ = some (sv p.text)
theorem PcCells.kept {w w' : World} {b o : Nat} {p : Pc} (h : PcCells w b o p) (hlt : b < w.heap.size) (hb : Below w.heap.size w w') : PcCells w' b o p := by
  unfold PcCells
  rw [hb.cell (p := ⟨b, o, none⟩) hlt, hb.cell (p := ⟨b, o + 1, none⟩) hlt, hb.cell (p := ⟨b, o + 2, none⟩) hlt, hb.cell (p := ⟨b, o + 3, none⟩) hlt]
  exact h
/-- pieces, wherever they read -/
def PcsAt (w : World) (v : Value) (ps : List Pc) : Prop :=
  ∃ (A : Option Addr) (b off c : Nat), v = .slice A ps.length c ∧ ps.length ≤ c ∧ c ≤ maxLen ∧ (0 < ps.length → A = some ⟨b, off, none⟩ ∧ b < w.heap.size) ∧
    ∀ (j : Nat) (p : Pc), ps[j]? = some p → PcCells w b (off + j * 4) p
theorem PcsAt.nil (w : World) (A : Option Addr) : PcsAt w (.slice A 0 0) [] := ⟨A, 0, 0, 0, rfl, Nat.le_refl _, Nat.zero_le _, fun h => absurd h (by simp), fun j p h => by simp at h⟩
theorem PcsAt.kept {w w' : World} {v : Value} {ps : List Pc} (h : PcsAt w v ps) (hb : Below w.heap.size w w') : PcsAt w' v ps := by
  obtain ⟨A, b, off, c, h1, h2, h3, h4, h5⟩ := h
  exact ⟨A, b, off, c, h1, h2, h3, fun hl => ⟨(h4 hl).1, Nat.lt_of_lt_of_le (h4 hl).2 hb.size⟩, fun j p hj => (h5 j p hj).kept (h4 (by have := (List.getElem?_eq_some_iff.1 hj).1; omega)).2 hb⟩
theorem PcsAt.len {w : World} {v : Value} {ps : List Pc} (h : PcsAt w v ps) : ps.length ≤ maxLen := by
  obtain ⟨A, b, off, c, h1, h2, h3, _⟩ := h; omega
theorem PsOwn.at {B : Nat} {v : Value} {ps : List Pc} {w : World} (h : PsOwn B v ps w) : PcsAt w v ps := by
  obtain ⟨h1, h2 | ⟨g, cap, cur, e1, e2, e3, e4, e5, e6, e7⟩⟩ := h
  · obtain rfl : ps = [] := List.eq_nil_of_length_eq_zero h2.2
    exact ⟨none, 0, 0, 0, h2.1, by simp, by unfold maxLen; omega, fun h => absurd h (by simp), fun j l hj => by simp at hj⟩
  · refine ⟨_, g, 0, cap, e1, e4, e5, fun _ => ⟨rfl, (Array.getElem?_eq_some_iff.1 e3).1⟩, fun j p hj => ?_⟩
    have hlt := (List.getElem?_eq_some_iff.1 hj).1
    obtain ⟨c0, c1, c2, c3⟩ := pcells_at ps j p hj
    have key : ∀ i x, i < ps.length * 4 → (pcells ps)[i]? = some x → w.cell? ⟨g, 0 + i, none⟩ = some x := fun i x hi hx => by
      rw [Lib.cell_of_heap e3, Nat.zero_add]
      have : (cur.toList.take (ps.length * 4))[i]? = (pcells ps)[i]? := by rw [e7]
      rw [List.getElem?_take, if_pos hi, hx] at this
      rw [← Array.getElem?_toList, this]
    have k1 := key (j * 4 + 1) _ (by omega) c1
    have k2 := key (j * 4 + 2) _ (by omega) c2
    have k3 := key (j * 4 + 3) _ (by omega) c3
    rw [← Nat.add_assoc] at k1 k2 k3
    exact ⟨key _ _ (by omega) c0, k1, k2, k3⟩
/-- what is left where a row of the call's own is written -/
def Left (w0 : World) (base : Nat) (w' : World) : Prop := ∀ (B : Nat) (A : World), Below B A w0 → B ≤ base → B ≤ w0.heap.size → Below B A w'
theorem left_of {w0 w' : World} {base : Nat} {e : TypeId} {size n : Nat} {v : Value} {xs : List Value} {o : Obj} (hown : w0.ownsRow base e size v n xs) (hg : (w0.alloc o).grownBy w' v.ownBlock) : Left w0 base w' :=
  fun B A hb h1 h2 => (hb.alloc h2 o).grown hg (by simp; omega) (fun k hk => Nat.le_trans h1 (hown.lt k hk).1)
/-- one piece more -/
theorem append_piece {w0 : World} {ops : Array Oper} {rest : List Oper} {o : Oper} {a : Act} {Q : Exit → Act → World → Prop} (p : Pc) (a1 a2 : ByteArray) (k1 k2 : Int) (h1 : sv p.name = .string a1) (h2 : sv p.text = .string a2) (hk1 : p.kind = k1) (hk2 : p.space = k2)
    (hgd : o.guard = none) (s xo : Operand) (ho : o.op = .call { callee := .builtin .append, args := #[s, xo], argTypes := #[22, 22] }) (base : Nat) (v : Value) (ps : List Pc) (g : Nat) (hgz : g = w0.heap.size) (hs : a.eval s = v) (hx : a.eval xo = .slice (some ⟨g, 0, none⟩) 1 1)
    (hown : PsOwn base v ps w0) (hl : ps.length ≤ 1099511627776) (hbase : base ≤ w0.heap.size)
    (h : ∀ v' w', PsOwn base v' (ps ++ [p]) w' → (w0.alloc (.cells #[.int .i64 k1, .int .i64 k2, .string a1, .string a2] 37)).grownBy w' v.ownBlock → wpList Tryz.prog ops Q rest (a.put o.dst v') w') :
    wpList Tryz.prog ops Q (o :: rest) a (w0.alloc (.cells #[.int .i64 k1, .int .i64 k2, .string a1, .string a2] 37)) := by
  obtain ⟨i0, hi, hz0, hz1, hz2⟩ := info_parts infoPc
  subst hgz
  subst hk1
  subst hk2
  have hrow : w0.ownsRow base 37 4 v ps.length (pcells ps) := hown
  refine wpList_append_own _ hgd s xo 22 ho base 37 i0 zeroPc 4 48 Tryz.underlying22 hi hz0 hz1 hz2 rfl (by decide) v ps.length (pcells ps) hs (World.ownsRow.alloc hrow _) ⟨w0.heap.size, 0, none⟩ 1 1 [.int .i64 p.kind, .int .i64 p.space, .string a1, .string a2] hx rfl (fun j u hj => ?_) (fun u hu => ?_) (by unfold maxLen; omega) (by omega) (by simp; omega)
    (fun v' w' h5 h6 _ => h v' w' ?_ h6)
  · match j, hj with
    | 0, hj => simp at hj; subst hj; simp [Addr.add]
    | 1, hj => simp at hj; subst hj; simp [Addr.add]
    | 2, hj => simp at hj; subst hj; simp [Addr.add]
    | 3, hj => simp at hj; subst hj; simp [Addr.add]
  · simp at hu
    rcases hu with rfl | rfl | rfl | rfl <;> rfl
  · unfold PsOwn
    rw [pcells_snoc, List.length_append, h1, h2]
    exact h5
/-- one piece less -/
theorem PsOwn.pop {B : Nat} {A : Option Addr} {n c : Nat} {os : List Pc} {p : Pc} {w : World} (h : PsOwn B (.slice A n c) (os ++ [p]) w) : PsOwn B (.slice A os.length c) os w := by
  obtain ⟨h1, h2 | ⟨g, cap, cur, e1, e2, e3, e4, e5, e6, e7⟩⟩ := h
  · simp at h2
  · injection e1 with e1 e8 e9
    subst e1; subst e9
    rw [List.length_append, List.length_singleton] at e4 e7
    refine ⟨pcells_len os, .inr ⟨g, c, cur, rfl, e2, e3, by omega, e5, e6, ?_⟩⟩
    have := congrArg (List.take (os.length * 4)) e7
    rw [List.take_take, pcells_take, List.take_left, Nat.min_eq_left (by omega)] at this
    exact this
/-- an object beside a row of the call's own that grows -/
theorem beside {w w0 w' : World} {B i : Nat} {v : Value} {os : List Pc} {o : Obj} (h : PsOwn B v os w) (hi : w.heap.size ≤ i) (h0 : i < w0.heap.size) (hg : (w0.alloc o).grownBy w' v.ownBlock) : w'.heap[i]? = w0.heap[i]? := by
  rw [hg.block i (by simp; omega) (fun e => by
    have := (h.lt i e.symm).2
    omega)]
  exact ((Below.refl w0.heap.size w0).alloc (Nat.le_refl _) o).block i h0
end Go.Proofs.YtjeagjleolmibaaGreatDoor.Xm

/-
  BYTES OF THE CALL's OWN ('BOwn'): one more, a string more, turned into a string.
-/
set_option linter.unusedVariables false
namespace Go.Proofs.YtjeagjleolmibaaGreatDoor.Xm
open Go.Lib Go.RowKit

theorem infoU8 : (Tryz.prog.info? 5).map (fun i => (i.zero, i.size, i.bytes)) = some (some (.int .u8 0), 1, 1) := by kernel_rfl
def BOwn (B : Nat) (v : Value) (l : Row) (w : World) : Prop := w.ownsRow B 5 1 v l.length (byteCells l)
theorem BOwn.nil (B : Nat) (w : World) : BOwn B (.slice none 0 0) [] w := World.ownsRow_nil w B _ 1
theorem BOwn.kept {w w' : World} {B : Nat} {v : Value} {l : Row} (h : BOwn B v l w) (hb : Below w.heap.size w w') : BOwn B v l w' := ownsRow_kept h hb
theorem conv_own {B : Nat} {v : Value} {l : Row} {w : World} (h : BOwn B v l w) : (convert 49 9 v).run Tryz.prog w = .ok (.string ⟨l.toArray⟩) w := by
  obtain ⟨h1, h2 | ⟨g, cap, cur, e1, e2, e3, e4, e5, e6, e7⟩⟩ := h
  · obtain rfl : l = [] := List.eq_nil_of_length_eq_zero h2.2
    rw [h2.1]
    exact run_convert_bytes_nil w 49 5 Tryz.underlying49 Tryz.underlying5 0 0 9 Tryz.underlying9
  · rw [e1]
    refine run_convert_bytes_back w 49 9 5 ⟨g, 0, none⟩ cap l Tryz.underlying49 Tryz.underlying5 Tryz.underlying9 fun j hj => ?_
    have hp : (⟨g, 0, none⟩ : Addr).add j = ⟨g, j, none⟩ := by unfold Addr.add; split <;> simp_all
    rw [hp, Lib.cell_of_heap e3]
    have : (cur.toList.take (l.length * 1))[j]? = (byteCells l)[j]? := by rw [e7]
    rw [List.getElem?_take, if_pos (by omega)] at this
    rw [← Array.getElem?_toList, this]
    unfold byteCells
    rw [List.getElem?_map, List.getElem?_eq_getElem hj]; rfl
/-- one byte more -/
theorem append_byte {w0 : World} {ops : Array Oper} {rest : List Oper} {o : Oper} {a : Act} {Q : Exit → Act → World → Prop} (x : UInt8) (z : Int) (hz : (x.toNat : Int) = z) (hgd : o.guard = none) (s xo : Operand)
    (ho : o.op = .call { callee := .builtin .append, args := #[s, xo], argTypes := #[49, 49] }) (base : Nat) (v : Value) (l : Row) (g : Nat) (hgz : g = w0.heap.size) (hs : a.eval s = v) (hx : a.eval xo = .slice (some ⟨g, 0, none⟩) 1 1)
    (hown : BOwn base v l w0) (hl : l.length + 1 ≤ 140737488355328) (hbase : base ≤ w0.heap.size)
    (h : ∀ v' w', BOwn base v' (l ++ [x]) w' → (w0.alloc (.cells #[.int .u8 z] 5)).grownBy w' v.ownBlock → wpList Tryz.prog ops Q rest (a.put o.dst v') w') :
    wpList Tryz.prog ops Q (o :: rest) a (w0.alloc (.cells #[.int .u8 z] 5)) := by
  obtain ⟨i0, hi, hz0, hz1, hz2⟩ := info_parts infoU8
  subst hz
  subst hgz
  refine wpList_append_own _ hgd s xo 49 ho base 5 i0 (.int .u8 0) 1 1 Tryz.underlying49 hi hz0 hz1 hz2 rfl (by decide) v l.length (byteCells l) hs (World.ownsRow.alloc hown _) ⟨w0.heap.size, 0, none⟩ 1 1 [.int .u8 (x.toNat : Int)] hx rfl (fun j u hj => ?_) (fun u hu => ?_) (by unfold maxLen; omega) (by omega) (by simp; omega) (fun v' w' h5 h6 _ => h v' w' ?_ h6)
  · match j, hj with
    | 0, hj => simp at hj; subst hj; simp [Addr.add]
  · simp at hu
    rcases hu with rfl
    rfl
  · unfold BOwn
    rw [byteCells_append, List.length_append]
    exact h5
/-- a string more -/
theorem append_text {w0 : World} {ops : Array Oper} {rest : List Oper} {o : Oper} {a : Act} {Q : Exit → Act → World → Prop} (x : ByteArray) (hgd : o.guard = none) (s xo : Operand)
    (ho : o.op = .call { callee := .builtin .append, args := #[s, xo], argTypes := #[49, 9] }) (base : Nat) (v : Value) (l : Row) (hs : a.eval s = v) (hx : a.eval xo = .string x)
    (hown : BOwn base v l w0) (hl : l.length + x.size ≤ 140737488355328) (hbase : base ≤ w0.heap.size)
    (h : ∀ v' w', BOwn base v' (l ++ x.data.toList) w' → w0.grownBy w' v.ownBlock → wpList Tryz.prog ops Q rest (a.put o.dst v') w') :
    wpList Tryz.prog ops Q (o :: rest) a w0 := by
  obtain ⟨i0, hi, hz0, hz1, hz2⟩ := info_parts infoU8
  refine Lib.wpList_append_own_string _ hgd s xo 49 9 ho base 5 i0 Tryz.underlying49 Tryz.underlying9 hi hz0 hz1 hz2 v l.length (byteCells l) hs hown x hx (by unfold maxLen; omega) hl hbase (fun v' w' h5 h6 _ => h v' w' ?_ h6)
  unfold BOwn
  rw [byteCells_append, List.length_append, ← Lib.size_eq]
  exact h5
/-- what lies below stays -/
theorem grown_below {B : Nat} {w0 w1 w' : World} {v : Value} {l : Row} (hb : Below B w0 w1) (hown : BOwn B v l w1) (hg : w1.grownBy w' v.ownBlock) (hB : B ≤ w1.heap.size) : Below B w0 w' :=
  hb.grown hg hB (fun k hk => (hown.lt k hk).1)
/-- an object beside bytes that grow -/
theorem beside_b {w w0 w' : World} {B i : Nat} {v : Value} {l : Row} (h : BOwn B v l w) (hi : w.heap.size ≤ i) (h0 : i < w0.heap.size) (hg : w0.grownBy w' v.ownBlock) : w'.heap[i]? = w0.heap[i]? :=
  hg.block i h0 (fun e => by
    have := (h.lt i e.symm).2
    omega)
/-- another object's block, of another type, beside bytes that grow -/
theorem beside_t {w0 w' : World} {B i : Nat} {v : Value} {l : Row} {xs : Array Value} {t : TypeId} {z : Nat × Nat} (h : BOwn B v l w0) (hi : w0.heap[i]? = some (.cells xs t z)) (ht : t ≠ 5) (hg : w0.grownBy w' v.ownBlock) : w'.heap[i]? = some (.cells xs t z) := by
  rw [hg.block i (Array.getElem?_eq_some_iff.1 hi).1 (fun e => ?_)]
  · exact hi
  · rcases h.2 with ⟨e1, _⟩ | ⟨g, cap, cur, e1, e2, e3, _⟩
    · rw [e1] at e; cases e
    · rw [e1] at e
      simp [Value.ownBlock] at e
      rw [← e, hi] at e3
      injection e3 with e3
      injection e3 with _ e4
      exact ht e4
theorem piece_ne : (37 : TypeId) ≠ 5 := by decide
/-- what stays where bytes of the call's own grow -/
def Stay (w0 : World) (base : Nat) (w' : World) : Prop := (∀ A, Below base A w0 → Below base A w') ∧ ∀ (i : Nat) (xs : Array Value) (z : Nat × Nat), w0.heap[i]? = some (Obj.cells xs 37 z) → w'.heap[i]? = some (Obj.cells xs 37 z)
theorem append_text2 {w0 : World} {ops : Array Oper} {rest : List Oper} {o : Oper} {a : Act} {Q : Exit → Act → World → Prop} (x : ByteArray) (hgd : o.guard = none) (s xo : Operand)
    (ho : o.op = .call { callee := .builtin .append, args := #[s, xo], argTypes := #[49, 9] }) (base : Nat) (v : Value) (l l' : Row) (hs : a.eval s = v) (hx : a.eval xo = .string x) (hll : l ++ x.data.toList = l')
    (hown : BOwn base v l w0) (hl : l'.length ≤ 140737488355328) (hbase : base ≤ w0.heap.size)
    (h : ∀ v' w', BOwn base v' l' w' → Stay w0 base w' → wpList Tryz.prog ops Q rest (a.put o.dst v') w') :
    wpList Tryz.prog ops Q (o :: rest) a w0 := by
  subst hll
  exact append_text x hgd s xo ho base v l hs hx hown (by rw [List.length_append, ← Lib.size_eq] at hl; exact hl) hbase fun v' w' h1 h2 => h v' w' h1 ⟨fun A hb => grown_below hb hown h2 hbase, fun i xs z hi => beside_t hown hi piece_ne h2⟩
theorem append_byte2 {w0 : World} {ops : Array Oper} {rest : List Oper} {o : Oper} {a : Act} {Q : Exit → Act → World → Prop} (x : UInt8) (z : Int) (hz : (x.toNat : Int) = z) (hgd : o.guard = none) (s xo : Operand)
    (ho : o.op = .call { callee := .builtin .append, args := #[s, xo], argTypes := #[49, 49] }) (base : Nat) (v : Value) (l l' : Row) (hll : l ++ [x] = l') (g : Nat) (hgz : g = w0.heap.size) (hs : a.eval s = v) (hx : a.eval xo = .slice (some ⟨g, 0, none⟩) 1 1)
    (hown : BOwn base v l w0) (hl : l'.length ≤ 140737488355328) (hbase : base ≤ w0.heap.size)
    (h : ∀ v' w', BOwn base v' l' w' → Stay w0 base w' → wpList Tryz.prog ops Q rest (a.put o.dst v') w') :
    wpList Tryz.prog ops Q (o :: rest) a (w0.alloc (.cells #[.int .u8 z] 5)) := by
  subst hll
  rw [List.length_append, List.length_singleton] at hl
  have hal : Below w0.heap.size w0 (w0.alloc (.cells #[.int .u8 z] 5)) := (Below.refl _ _).alloc (Nat.le_refl _) _
  have hown2 := hown.kept hal
  refine append_byte x z hz hgd s xo ho base v l g hgz hs hx hown hl hbase fun v' w' h1 h2 => h v' w' h1 ⟨fun A hb => grown_below (hb.alloc hbase _) hown2 h2 (Nat.le_trans hbase hal.size), fun i xs z' hi => beside_t hown2 ?_ piece_ne h2⟩
  exact (hal.block i (Array.getElem?_eq_some_iff.1 hi).1).trans hi
end Go.Proofs.YtjeagjleolmibaaGreatDoor.Xm

/-
  PLAIN LAWS OF LAYER xml: what a reader that goes part by part, element in element, must know of the steps ('ans': what the rest is read as).
-/
set_option linter.unusedVariables false
namespace Go.Proofs.YtjeagjleolmibaaGreatDoor.Xm

/-! ### what the rest is read as -/
def ans (σ : St) : Option (List Pc) := (go σ).bind fin
theorem ans_some {σ τ : St} (h : step σ = some τ) : ans σ = ans τ := by unfold ans; rw [go_some h]
theorem ans_none {σ : St} (h0 : σ.rest ≠ []) (h : step σ = none) : ans σ = none := by unfold ans; rw [go_none h0 h]; rfl
theorem ans_runs {σ τ : St} {a X : Row} (h : Runs σ a τ) : ans (σ.at (a ++ X)) = ans (τ.at X) := by unfold ans; rw [h X]
theorem ans_over {σ : St} (h : σ.rest = []) (hs : σ.stack ≠ [] ∨ σ.had = false) : ans σ = none := by
  unfold ans
  rw [go_nil h, Option.bind_some]
  unfold fin
  rw [if_neg]
  rintro ⟨h1, h2⟩
  rcases hs with hs | hs
  · exact hs h2
  · rw [hs] at h1; cases h1
theorem ans_done {σ : St} (h : σ.rest = []) (hs : σ.stack = []) (hh : σ.had = true) : ans σ = some σ.pcs := by
  unfold ans
  rw [go_nil h, Option.bind_some]
  unfold fin
  rw [if_pos ⟨hh, hs⟩]
theorem runs_bytes : ∀ (a : Row) (σ : St), σ.stack ≠ [] → (∀ c ∈ a, c ≠ 60 ∧ c ≠ 38) → Runs σ a { σ with txt := σ.txt ++ a }
  | [], σ, _, _ => by simpa using Runs.nil σ
  | c :: a, σ, hs, h => by
    have h1 := runs_byte σ c (h c (by simp)).1 (h c (by simp)).2 hs
    have h2 := runs_bytes a { σ with txt := σ.txt ++ [c] } hs (fun x hx => h x (by simp [hx]))
    have := h1.trans h2
    simpa using this
/-- characters up to the next mark -/
theorem ans_bytes {σ : St} {a X : Row} (hr : σ.rest = a ++ X) (hs : σ.stack ≠ []) (h : ∀ c ∈ a, c ≠ 60 ∧ c ≠ 38) : ans σ = ans { σ with rest := X, txt := σ.txt ++ a } := by
  have := ans_runs (X := X) (runs_bytes a σ hs h)
  rw [← hr] at this
  exact this
/-- .. to the end: nothing -/
theorem ans_bytes_end {σ : St} (hs : σ.stack ≠ []) (h : ∀ c ∈ σ.rest, c ≠ 60 ∧ c ≠ 38) : ans σ = none := by
  rw [ans_bytes (X := []) (by simp) hs h]
  exact ans_over rfl (.inl hs)
theorem runs_blanks : ∀ (a : Row) (σ : St), σ.stack = [] → (∀ c ∈ a, blk c = true) → Runs σ a σ
  | [], σ, _, _ => Runs.nil σ
  | c :: a, σ, hs, h => (runs_blank σ c (h c (by simp)) hs).trans (runs_blanks a σ hs (fun x hx => h x (by simp [hx])))
theorem ans_blanks {σ : St} (hs : σ.stack = []) : ans σ = ans { σ with rest := σ.rest.dropWhile blk } := by
  have hall : ∀ c ∈ σ.rest.takeWhile blk, blk c = true := fun c hc => by
    have := List.all_takeWhile (l := σ.rest) (p := blk)
    exact List.all_eq_true.1 this c hc
  have := ans_runs (X := σ.rest.dropWhile blk) (runs_blanks _ σ hs hall)
  rw [List.takeWhile_append_dropWhile] at this
  exact this
theorem ans_ent {σ : St} {t : Row} (hr : σ.rest = 38 :: t) (hs : σ.stack ≠ []) : ans σ = ((find [59] t).bind fun p => (ent p.1).map fun x => ({ σ with rest := p.2, txt := σ.txt ++ x } : St)).bind ans := by
  have h := step_ent hr hs
  cases hx : (find [59] t).bind fun p => (ent p.1).map fun x => ({ σ with rest := p.2, txt := σ.txt ++ x } : St) with
  | none => rw [hx] at h; exact ans_none (by rw [hr]; simp) h
  | some τ => rw [hx] at h; exact ans_some h
theorem ans_remark {σ : St} {t : Row} (hr : σ.rest = remarkS ++ t) : ans σ = ((remark t).map fun v => ({ σ with rest := v } : St)).bind ans := by
  have h := step_remark (σ := σ) (t := t) hr
  cases hx : (remark t).map fun v => ({ σ with rest := v } : St) with
  | none => rw [hx] at h; exact ans_none (by rw [hr]; simp [remarkS]) h
  | some τ => rw [hx] at h; exact ans_some h
theorem ans_out {σ : St} {c : UInt8} {t : Row} (hr : σ.rest = c :: t) (h1 : c ≠ 60) (hb : blk c = false) (hs : σ.stack = []) : ans σ = none :=
  ans_none (by rw [hr]; simp) (by rw [step_out hr h1 hs, hb]; rfl)
theorem ans_tag {σ : St} {c : UInt8} {t : Row} (hr : σ.rest = 60 :: t) (h : step σ = opens σ t) : ans σ = (opens σ t).bind ans := by
  cases hx : opens σ t with
  | none => rw [hx] at h; exact ans_none (by rw [hr]; simp) h
  | some τ => rw [hx] at h; exact ans_some h
theorem ans_close {σ : St} {t : Row} (hr : σ.rest = 60 :: 47 :: t) : ans σ = (closes σ t).bind ans := by
  have h := step_end hr
  cases hx : closes σ t with
  | none => rw [hx] at h; exact ans_none (by rw [hr]; simp) h
  | some τ => rw [hx] at h; exact ans_some h
/-- within an element -/
theorem step_in {σ : St} {t : Row} (hr : σ.rest = 60 :: t) (hs : σ.stack ≠ []) (h1 : ([47] : Row).isPrefixOf t = false) (h2 : ([33, 45, 45] : Row).isPrefixOf t = false) : step σ = opens σ t := by
  unfold step
  rw [hr]
  simp only
  rw [if_pos trivial]
  split
  · simp [List.isPrefixOf] at h2
  · simp [List.isPrefixOf] at h1
  · rw [if_neg (fun q => hs q.1)]
theorem written_no {c : UInt8} {t : Row} (h : ftB c = false) : written (c :: t) = none := by
  unfold written nameC
  have : nlen (c :: t) = 0 := by show (if ftB c = true then _ else 0) = 0; rw [h]; rfl
  rw [if_pos (.inl this)]; rfl
theorem opens_no {σ : St} {t : Row} (h : written t = none) : opens σ t = none := by
  unfold opens
  split
  · rfl
  · rw [h]; rfl
/-- outside, ahead of the first element -/
theorem step_top {σ : St} {t : Row} (hr : σ.rest = 60 :: t) (hs : σ.stack = []) (hh : σ.had = false) (h2 : ([33, 45, 45] : Row).isPrefixOf t = false) : step σ = opens σ t := by
  unfold step
  rw [hr]
  simp only
  rw [if_pos trivial]
  split
  · simp [List.isPrefixOf] at h2
  · rename_i u
    rw [opens_no (written_no (by decide))]
    unfold closes
    rw [hs]
  · rw [if_neg (fun q => by rw [hh] at q; cases q.2)]
/-- outside, behind the element -/
theorem ans_behind {σ : St} {t : Row} (hr : σ.rest = 60 :: t) (hs : σ.stack = []) (hh : σ.had = true) (h2 : ([33, 45, 45] : Row).isPrefixOf t = false) : ans σ = none := by
  refine ans_none (by rw [hr]; simp) ?_
  unfold step
  rw [hr]
  simp only
  rw [if_pos trivial]
  split
  · simp [List.isPrefixOf] at h2
  · unfold closes; rw [hs]
  · rw [if_pos ⟨hs, hh⟩]

/-! ### names -/
theorem nlen_take (t : Row) : (nlen t = 0 ∧ (t = [] ∨ ∃ c r, t = c :: r ∧ ftB c = false)) ∨ (∃ c r, t = c :: r ∧ ftB c = true ∧ nlen t = (t.takeWhile nxB).length) := by
  cases t with
  | nil => exact .inl ⟨rfl, .inl rfl⟩
  | cons c r =>
    cases hc : ftB c with
    | false => exact .inl ⟨by show (if ftB c = true then _ else 0) = 0; rw [hc]; rfl, .inr ⟨c, r, rfl, hc⟩⟩
    | true =>
      refine .inr ⟨c, r, rfl, hc, ?_⟩
      show (if ftB c = true then (r.takeWhile nxB).length + 1 else 0) = _
      rw [if_pos hc, List.takeWhile_cons, if_pos (ft_nx hc), List.length_cons]
theorem takeWhile_take (p : UInt8 → Bool) (t : Row) : t.take (t.takeWhile p).length = t.takeWhile p := (List.prefix_iff_eq_take.1 (List.takeWhile_prefix p)).symm
theorem takeWhile_drop (p : UInt8 → Bool) (t : Row) : t.drop (t.takeWhile p).length = t.dropWhile p := by
  have e : (t.takeWhile p ++ t.dropWhile p).drop (t.takeWhile p).length = t.dropWhile p := List.drop_left
  rw [List.takeWhile_append_dropWhile] at e
  exact e
/-- the name at the front as a reader cuts it -/
theorem nameC_cut (t : Row) : nameC t = if nameB (t.takeWhile nxB) = true then some (t.takeWhile nxB, t.dropWhile nxB) else none := by
  rcases nlen_take t with ⟨h, h2⟩ | ⟨c, r, rfl, hc, h⟩
  · have e : nameB (t.takeWhile nxB) = false := by
      rcases h2 with rfl | ⟨c, r, rfl, hc⟩
      · rfl
      · rw [List.takeWhile_cons]
        split
        · show (ftB c && _ && _) = false
          rw [hc]; rfl
        · rfl
    rw [e]
    unfold nameC
    rw [if_pos (.inl h)]; rfl
  · have e : (c :: r).takeWhile nxB = c :: r.takeWhile nxB := by rw [List.takeWhile_cons, if_pos (ft_nx hc)]
    have hall : (r.takeWhile nxB).all nxB = true := List.all_takeWhile
    unfold nameC
    rw [h, takeWhile_take, takeWhile_drop]
    by_cases h64 : 64 < ((c :: r).takeWhile nxB).length
    · have e2 : nameB ((c :: r).takeWhile nxB) = false := by
        rw [e] at h64 ⊢
        show (ftB c && (r.takeWhile nxB).all nxB && decide ((r.takeWhile nxB).length < 64)) = false
        rw [List.length_cons] at h64
        rw [show decide ((r.takeWhile nxB).length < 64) = false from decide_eq_false (by omega)]
        simp
      rw [if_pos (.inr h64), e2]; rfl
    · have e2 : nameB ((c :: r).takeWhile nxB) = true := by
        rw [e] at h64 ⊢
        show (ftB c && (r.takeWhile nxB).all nxB && decide ((r.takeWhile nxB).length < 64)) = true
        rw [List.length_cons] at h64
        rw [hc, hall, show decide ((r.takeWhile nxB).length < 64) = true from decide_eq_true (by omega)]; rfl
      rw [if_neg (by rw [e] at h64 ⊢; simp only [List.length_cons] at h64 ⊢; omega), e2]; rfl
theorem nameC_head {l n r : Row} (h : nameC l = some (n, r)) : ∀ x, r.head? = some x → nxB x = false := by
  rw [nameC_cut] at h
  split at h
  · have h := Option.some.inj h
    simp only [Prod.mk.injEq] at h
    obtain ⟨_, rfl⟩ := h
    intro x hx
    cases hd : l.dropWhile nxB with
    | nil => rw [hd] at hx; cases hx
    | cons y z =>
      rw [hd] at hx
      simp at hx
      have := List.head?_dropWhile_not nxB l
      rw [hd] at this
      simp at this
      rw [← hx]; simpa using this
  · cases h
def fullT (p n : Row) : Row := if p = [] then n else p ++ 58 :: n
theorem fullT_pre {p n : Row} (h : p ≠ []) : fullT p n = p ++ 58 :: n := if_neg h
theorem fullT_bare {n : Row} : fullT [] n = n := if_pos rfl
/-- a written name as it stands -/
theorem written_form {t p n r : Row} (h : written t = some (p, n, r)) : t = fullT p n ++ r ∧ nameB n = true ∧ (p = [] ∨ nameB p = true) := by
  unfold written at h
  cases hn : nameC t with
  | none => rw [hn] at h; cases h
  | some q =>
    obtain ⟨a, u⟩ := q
    obtain ⟨e, ha⟩ := nameC_some hn
    rw [hn, Option.bind_some] at h
    simp only at h
    split at h
    · rename_i v
      cases hm : nameC v with
      | none => rw [hm] at h; cases h
      | some q2 =>
        obtain ⟨b, z⟩ := q2
        obtain ⟨e2, hb⟩ := nameC_some hm
        rw [hm] at h
        simp at h
        obtain ⟨rfl, rfl, rfl⟩ := h
        refine ⟨?_, hb, .inr ha⟩
        rw [fullT_pre (nameB_ne ha), e, e2]; simp
    · simp at h
      obtain ⟨rfl, rfl, rfl⟩ := h
      exact ⟨by rw [fullT_bare]; exact e, ha, .inl rfl⟩
theorem written_full {p n r : Row} (hn : nameB n = true) (hp : p = [] ∨ nameB p = true) (hr : ∀ x, r.head? = some x → nxB x = false ∧ x ≠ 58) : written (fullT p n ++ r) = some (p, n, r) := by
  rcases hp with rfl | hp
  · rw [fullT_bare]; exact written_bare n r hn hr
  · rw [fullT_pre (nameB_ne hp)]
    have := written_pre p n r hp hn (fun x hx => (hr x hx).1)
    simpa using this
theorem blk_nx {c : UInt8} (h : blk c = true) : nxB c = false ∧ c ≠ 58 := by
  unfold blk at h
  simp only [Bool.or_eq_true, beq_iff_eq] at h
  rcases h with ((rfl | rfl) | rfl) | rfl <;> decide
theorem end_head {x v : Row} (h : x.dropWhile blk = 62 :: v) : ∀ y, x.head? = some y → nxB y = false ∧ y ≠ 58 := by
  intro y hy
  cases x with
  | nil => cases hy
  | cons c r =>
    simp at hy; subst hy
    rw [List.dropWhile_cons] at h
    split at h
    · exact blk_nx (by assumption)
    · injection h with h1 h2
      subst h1; decide

/-! ### ends -/
theorem closes_yes {σ : St} {e : El} {st : List El} {x v : Row} (hs : σ.stack = e :: st) (hn : nameB e.name = true) (hp : e.pre = [] ∨ nameB e.pre = true) (hx : x.dropWhile blk = 62 :: v) :
    closes σ (fullT e.pre e.name ++ x) = some { σ with rest := v, stack := st, env := e.env, pcs := flushed σ.pcs σ.txt ++ [⟨2, e.space, e.name, []⟩], txt := [] } := by
  unfold closes
  rw [hs]
  simp only
  rw [written_full hn hp (end_head hx), Option.bind_some]
  simp only
  rw [hx]
  simp only
  rw [if_pos (by simp)]
theorem closes_some {σ τ : St} {e : El} {st : List El} {t : Row} (hs : σ.stack = e :: st) (h : closes σ t = some τ) : ∃ x v, t = fullT e.pre e.name ++ x ∧ x.dropWhile blk = 62 :: v := by
  unfold closes at h
  rw [hs] at h
  simp only at h
  cases hw : written t with
  | none => rw [hw] at h; cases h
  | some q =>
    obtain ⟨p, n, r⟩ := q
    rw [hw, Option.bind_some] at h
    simp only at h
    split at h
    · rename_i v hv
      split at h
      · rename_i hc
        obtain ⟨e1, _⟩ := written_form hw
        exact ⟨r, v, by rw [← hc.1, ← hc.2]; exact e1, hv⟩
      · cases h
    · cases h
theorem closes_no {σ : St} {e : El} {st : List El} {t : Row} (hs : σ.stack = e :: st) (h : ∀ x, t = fullT e.pre e.name ++ x → (x.dropWhile blk).head? ≠ some 62) : closes σ t = none := by
  cases hc : closes σ t with
  | none => rfl
  | some τ =>
    obtain ⟨x, v, h1, h2⟩ := closes_some hs hc
    exact absurd (by rw [h2]; rfl) (h x h1)

/-! ### declarations -/
theorem declsA_stop {t : Row} {own : Env} (h : t.dropWhile blk = t) : declsA t own = some (t, own) := by
  have hm : more t = false := by
    cases t with
    | nil => rfl
    | cons c r =>
      show (blk c && _) = false
      rw [List.dropWhile_cons] at h
      split at h
      · rename_i hc
        have := congrArg List.length h
        have := dropWhile_len blk r
        simp at *
        omega
      · rename_i hc
        rw [show blk c = false by simpa using hc]; rfl
  rw [declsA_end hm, h]
theorem xmlns_name : nameB xmlnsS = true := by decide
theorem declares_xmlns {a b pre : Row} (h : declares a b = some pre) : (a = [] ∧ b = xmlnsS ∧ pre = []) ∨ (a = xmlnsS ∧ b = pre) := by
  unfold declares at h
  split at h
  · rename_i hc; simp at h; exact .inl ⟨hc.1, hc.2, h⟩
  · split at h
    · rename_i hc; simp at h; exact .inr ⟨hc, h⟩
    · cases h
theorem decl_front {t pre r : Row} {s : Int} (h : decl t = some (pre, s, r)) : xmlnsS.isPrefixOf t = true := by
  unfold decl at h
  cases hw : written t with
  | none => rw [hw] at h; cases h
  | some w =>
    obtain ⟨a, b, u⟩ := w
    obtain ⟨e, hn, hp⟩ := written_form hw
    rw [hw, Option.bind_some] at h
    cases hd : declares a b with
    | none => simp only [hd] at h; cases h
    | some q =>
      rcases declares_xmlns hd with ⟨h1, h2, _⟩ | ⟨h1, h2⟩
      · rw [h1, h2, fullT_bare] at e
        exact List.isPrefixOf_iff_prefix.2 ⟨u, e.symm⟩
      · rw [h1, fullT_pre (by decide), List.append_assoc] at e
        exact List.isPrefixOf_iff_prefix.2 ⟨_, e.symm⟩
/-- no declaration stands there -/
theorem declsA_other {t : Row} {own : Env} (h : xmlnsS.isPrefixOf (t.dropWhile blk) = false) : declsA t own = some (t.dropWhile blk, own) ∨ (declsA t own = none ∧ (t.dropWhile blk).head? ≠ some 47 ∧ (t.dropWhile blk).head? ≠ some 62) := by
  cases hm : more t with
  | false => exact .inl (declsA_end hm)
  | true =>
    refine .inr ⟨?_, ?_⟩
    · rw [declsA_more hm]
      cases hd : decl (t.dropWhile blk) with
      | none => rfl
      | some d =>
        obtain ⟨pre, s, r⟩ := d
        rw [decl_front hd] at h; cases h
    · cases t with
      | nil => cases hm
      | cons c r =>
        have hm' : (blk c && (match r.dropWhile blk with
          | 47 :: _ => false
          | 62 :: _ => false
          | _ => true)) = true := hm
        simp only [Bool.and_eq_true] at hm'
        have e : (c :: r).dropWhile blk = r.dropWhile blk := by rw [List.dropWhile_cons, if_pos hm'.1]
        rw [e]
        constructor
        · intro hq
          cases hx : r.dropWhile blk with
          | nil => rw [hx] at hq; cases hq
          | cons y z => rw [hx] at hq; simp at hq; rw [hx, hq] at hm'; cases hm'.2
        · intro hq
          cases hx : r.dropWhile blk with
          | nil => rw [hx] at hq; cases hq
          | cons y z => rw [hx] at hq; simp at hq; rw [hx, hq] at hm'; cases hm'.2
/-- one stands there -/
theorem declsA_here {t r : Row} {own : Env} (hne : t.dropWhile blk ≠ t) (h : t.dropWhile blk = xmlnsS ++ r) : declsA t own = (decl (xmlnsS ++ r)).bind fun d => if (look d.1 own).isSome = true then none else declsA d.2.2 ((d.1, d.2.1) :: own) := by
  have hm : more t = true := by
    cases t with
    | nil => exact absurd rfl hne
    | cons c u =>
      show (blk c && _) = true
      rw [List.dropWhile_cons] at h hne
      split at h
      · rename_i hc
        rw [hc, h]; rfl
      · rename_i hc
        rw [if_neg hc] at hne
        exact absurd rfl hne
  rw [declsA_more hm, h]
theorem decl_named {n u : Row} (hn : nameB n = true) (hu : ∀ x, u.head? = some x → nxB x = false) : decl (xmlnsS ++ 58 :: (n ++ u)) = (quoted u).map fun p => (n, spaceOf p.1, p.2) := by
  unfold decl
  rw [written_pre xmlnsS n u xmlns_name hn hu, Option.bind_some]
  show ((declares xmlnsS n).bind fun pre => (quoted u).map _) = _
  unfold declares
  rw [if_neg (fun e => by cases e.1), if_pos rfl, Option.bind_some]
theorem decl_noname {r : Row} (h : nameC r = none) : decl (xmlnsS ++ 58 :: r) = none := by
  have : written (xmlnsS ++ 58 :: r) = none := by
    unfold written
    rw [nameC_front xmlnsS (58 :: r) xmlns_name (fun x hx => by simp at hx; rw [← hx]; exact nx_colon), Option.bind_some]
    show (nameC r).map _ = none
    rw [h]; rfl
  unfold decl
  rw [this]; rfl
theorem quoted_no {r : Row} (h : r.head? ≠ some 61) : quoted r = none := by
  unfold quoted
  split
  · exact absurd rfl h
  · rfl
theorem decl_plain {r : Row} (h : r.head? ≠ some 58) : decl (xmlnsS ++ r) = (quoted r).map fun p => ([], spaceOf p.1, p.2) := by
  by_cases h61 : r.head? = some 61
  · have hr : ∀ x, r.head? = some x → nxB x = false ∧ x ≠ 58 := fun x hx => by
      rw [h61] at hx; simp at hx; rw [← hx]; decide
    unfold decl
    rw [written_bare xmlnsS r xmlns_name hr, Option.bind_some]
    show ((declares [] xmlnsS).bind fun pre => (quoted r).map _) = _
    unfold declares
    rw [if_pos ⟨rfl, rfl⟩, Option.bind_some]
  · rw [quoted_no h61]
    show _ = none
    cases hd : decl (xmlnsS ++ r) with
    | none => rfl
    | some d =>
      exfalso
      obtain ⟨pre, s, z⟩ := d
      unfold decl at hd
      cases hw : written (xmlnsS ++ r) with
      | none => rw [hw] at hd; cases hd
      | some w =>
        obtain ⟨a, b, u⟩ := w
        obtain ⟨e, hn, hp⟩ := written_form hw
        rw [hw, Option.bind_some] at hd
        cases hc : declares a b with
        | none => simp only [hc] at hd; cases hd
        | some q =>
          rcases declares_xmlns hc with ⟨h1, h2, _⟩ | ⟨h1, h2⟩
          · rw [h1, h2, fullT_bare] at e
            have e := List.append_cancel_left e
            simp only [hc, Option.bind_some] at hd
            rw [← e, quoted_no h61] at hd
            cases hd
          · rw [h1, fullT_pre (by decide), List.append_assoc] at e
            have e := List.append_cancel_left e
            rw [e] at h
            exact h rfl
/-- how a value stands -/
theorem quoted_is {q : UInt8} {u : Row} (hq : q = 34 ∨ q = 39) : quoted (61 :: q :: u) = (find [q] u).bind fun p => if (60 : UInt8) ∈ p.1 then none else some p := if_pos hq
theorem quoted_sign {u : Row} (h1 : u.head? ≠ some 34) (h2 : u.head? ≠ some 39) : quoted (61 :: u) = none := by
  cases u with
  | nil => rfl
  | cons q v =>
    show (if q = 34 ∨ q = 39 then _ else none) = none
    rw [if_neg]
    rintro (rfl | rfl)
    · exact h1 rfl
    · exact h2 rfl

/-! ### beginnings -/
theorem opens_deep {σ : St} {t : Row} (h : 16 ≤ σ.stack.length) : opens σ t = none := if_pos h
theorem opens_at {σ : St} {t p n u : Row} (h : σ.stack.length < 16) (hw : written t = some (p, n, u)) : opens σ t = (declsA u []).bind fun d => (spOf p (d.2 ++ σ.env)).bind fun sp => match d.1 with
  | 47 :: 62 :: v => some { σ with rest := v, pcs := flushed σ.pcs σ.txt ++ [⟨1, sp, n, []⟩, ⟨2, sp, n, []⟩], txt := [], had := true }
  | 62 :: v => some { σ with rest := v, stack := ⟨p, n, sp, σ.env⟩ :: σ.stack, env := d.2 ++ σ.env, pcs := flushed σ.pcs σ.txt ++ [⟨1, sp, n, []⟩], txt := [], had := true }
  | _ => none := by
  unfold opens
  rw [if_neg (by omega), hw]; rfl
theorem opens_both {σ : St} {t p n u v : Row} {own : Env} {sp : Int} (h : σ.stack.length < 16) (hw : written t = some (p, n, u)) (hd : declsA u [] = some (47 :: 62 :: v, own)) (hs : spOf p (own ++ σ.env) = some sp) :
    opens σ t = some { σ with rest := v, pcs := flushed σ.pcs σ.txt ++ [⟨1, sp, n, []⟩, ⟨2, sp, n, []⟩], txt := [], had := true } := by
  rw [opens_at h hw, hd, Option.bind_some]
  simp only
  rw [hs]; rfl
theorem opens_one {σ : St} {t p n u v : Row} {own : Env} {sp : Int} (h : σ.stack.length < 16) (hw : written t = some (p, n, u)) (hd : declsA u [] = some (62 :: v, own)) (hs : spOf p (own ++ σ.env) = some sp) :
    opens σ t = some { σ with rest := v, stack := ⟨p, n, sp, σ.env⟩ :: σ.stack, env := own ++ σ.env, pcs := flushed σ.pcs σ.txt ++ [⟨1, sp, n, []⟩], txt := [], had := true } := by
  rw [opens_at h hw, hd, Option.bind_some]
  simp only
  rw [hs]; rfl
theorem opens_nodecl {σ : St} {t p n u : Row} (hw : written t = some (p, n, u)) (hd : declsA u [] = none) : opens σ t = none := by
  unfold opens
  split
  · rfl
  · rw [hw, Option.bind_some]; simp only; rw [hd]; rfl
theorem opens_nospace {σ : St} {t p n u x : Row} {own : Env} (hw : written t = some (p, n, u)) (hd : declsA u [] = some (x, own)) (hs : spOf p (own ++ σ.env) = none) : opens σ t = none := by
  unfold opens
  split
  · rfl
  · rw [hw, Option.bind_some]; simp only; rw [hd, Option.bind_some]; simp only; rw [hs]; rfl
theorem opens_noend {σ : St} {t p n u x : Row} {own : Env} (hw : written t = some (p, n, u)) (hd : declsA u [] = some (x, own)) (h1 : ([47, 62] : Row).isPrefixOf x = false) (h2 : x.head? ≠ some 62) : opens σ t = none := by
  unfold opens
  split
  · rfl
  · rw [hw, Option.bind_some]; simp only; rw [hd, Option.bind_some]; simp only
    cases spOf p (own ++ σ.env) with
    | none => rfl
    | some sp =>
      rw [Option.bind_some]
      split
      · simp [List.isPrefixOf] at h1
      · exact absurd rfl h2
      · rfl
theorem look_append (p : Row) : ∀ (a b : Env), look p (a ++ b) = (match look p a with
  | some s => some s
  | none => look p b)
  | [], _ => rfl
  | d :: a, b => by
    show (if d.1 = p then some d.2 else look p (a ++ b)) = _
    by_cases h : d.1 = p
    · rw [if_pos h]
      have : look p (d :: a) = some d.2 := if_pos h
      rw [this]
    · rw [if_neg h, look_append p a b]
      have : look p (d :: a) = look p a := if_neg h
      rw [this]
theorem pre_split (p t : Row) : (p.isPrefixOf t = true ∧ ∃ r, t = p ++ r) ∨ p.isPrefixOf t = false := by
  cases h : p.isPrefixOf t with
  | false => exact .inr rfl
  | true =>
    obtain ⟨r, hr⟩ := List.isPrefixOf_iff_prefix.1 h
    exact .inl ⟨rfl, r, hr.symm⟩
end Go.Proofs.YtjeagjleolmibaaGreatDoor.Xm
