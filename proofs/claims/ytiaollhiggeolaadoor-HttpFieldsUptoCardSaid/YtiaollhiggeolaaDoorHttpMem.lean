/-
  HOW FIELDS LIE IN MEMORY: in rows of the call's own ('FsOwn'), and wherever they read ('FsAt').
-/
import Derived.Test.YtiaollhiggeolaaDoorHttpMsg
import Derived.Test.YtiaollhiggeolaaDoorShelf
import Derived.Laws.AppendOwn
import Derived.Lib.Builder
import Derived.Below
import Derived.Lib.Hide
import Derived.Lib.IndexLaws
import Derived.KernelRfl
import Derived.OwnWalk
import Derived.WalkKit
set_option linter.unusedVariables false
namespace Go.Proofs.YtiaollhiggeolaaDoor.Ht
open Go.Lib Go.RowKit

theorem below_then {a b c : World} (h1 : Below a.heap.size a b) (h2 : Below b.heap.size b c) : Below a.heap.size a c := h1.trans (h2.mono h1.size)
theorem below_drewN {B : Nat} {a w : World} (n : Nat) (h : Below B a w) : Below B a (w.drewN n) := ⟨h.os, h.tape, h.output, h.size, h.block⟩
def sv (l : Row) : Value := .string ⟨l.toArray⟩
theorem sv_data (s : ByteArray) : sv s.data.toList = .string s := by unfold sv; rw [Lib.mk_data]
theorem sv_some (l : Row) : ∃ x : ByteArray, sv l = .string x ∧ x.data.toList = l := ⟨⟨l.toArray⟩, rfl, by simp⟩
theorem sv_str {l : Row} {x : ByteArray} (h : sv l = .string x) : x.data.toList = l := by
  unfold sv at h
  injection h with h
  rw [← h]
theorem data_is {x y : ByteArray} (h : x.data.toList = y.data.toList) : x = y := by
  cases x; cases y
  simp only [Array.toList_inj] at h
  rw [h]
theorem cat_data {x y z : ByteArray} (h : x ++ y = z) : z.data.toList = x.data.toList ++ y.data.toList := by rw [← h, ByteArray.data_append, Array.toList_append]
theorem cat_size {x y z : ByteArray} (h : x ++ y = z) : z.size = x.size + y.size := by rw [← h, ByteArray.size_append]
theorem ret_bool {a b : Bool} (h : a = b) : Ending.returned (.bool a) = .returned (.bool b) := by rw [h]
theorem ownsRow_kept {w w' : World} {B : Nat} {e : TypeId} {size : Nat} {v : Value} {n : Nat} {xs : List Value} (h : w.ownsRow B e size v n xs) (hb : Below w.heap.size w w') : w'.ownsRow B e size v n xs := by
  refine ⟨h.1, ?_⟩
  rcases h.2 with h | ⟨g, cap, cur, e1, e2, e3, e4⟩
  · exact .inl h
  · exact .inr ⟨g, cap, cur, e1, e2, by rw [hb.block g (Array.getElem?_eq_some_iff.1 e3).1]; exact e3, e4⟩
theorem ownsRow_form {w : World} {B : Nat} {e : TypeId} {size : Nat} {v : Value} {n : Nat} {xs : List Value} (h : w.ownsRow B e size v n xs) : ∃ ao c, v = .slice ao n c := by
  rcases h.2 with ⟨hv, hn⟩ | ⟨g, cap, cur, e1, _⟩
  · exact ⟨none, 0, by rw [hv, hn]⟩
  · exact ⟨_, _, e1⟩
theorem info_parts {P : Program} {T : TypeId} {z : Value} {n by' : Nat} (h : (P.info? T).map (fun i => (i.zero, i.size, i.bytes)) = some (some z, n, by')) : ∃ i, P.info? T = some i ∧ i.zero = some z ∧ i.size = n ∧ i.bytes = by' := by
  cases hi : P.info? T with
  | none => rw [hi] at h; cases h
  | some i =>
    rw [hi] at h
    simp only [Option.map_some, Option.some.injEq, Prod.mk.injEq] at h
    exact ⟨i, rfl, h.1, h.2.1, h.2.2⟩
theorem infoFd : (Tryd.prog.info? 47).map (fun i => (i.zero, i.size, i.bytes)) = some (some (.agg #[.string ⟨#[]⟩, .string ⟨#[]⟩]), 2, 32) := by kernel_rfl
def fcells : List Fd → List Value
  | [] => []
  | p :: ps => sv p.1 :: sv p.2 :: fcells ps
theorem fcells_snoc : ∀ (ps : List Fd) (p : Fd), fcells (ps ++ [p]) = fcells ps ++ [sv p.1, sv p.2]
  | [], _ => rfl
  | q :: ps, p => by
    have := fcells_snoc ps p
    simp only [List.cons_append, fcells, this]
theorem fcells_len : ∀ (ps : List Fd), (fcells ps).length = ps.length * 2
  | [] => rfl
  | p :: ps => by
    have := fcells_len ps
    simp only [fcells, List.length_cons]; omega
theorem fcells_at : ∀ (ps : List Fd) (j : Nat) (p : Fd), ps[j]? = some p → (fcells ps)[j * 2]? = some (sv p.1) ∧ (fcells ps)[j * 2 + 1]? = some (sv p.2)
  | [], j, p, h => by simp at h
  | q :: ps, 0, p, h => by
    simp at h; subst h
    exact ⟨rfl, rfl⟩
  | q :: ps, j + 1, p, h => by
    have := fcells_at ps j p (by simpa using h)
    rw [show (j + 1) * 2 = j * 2 + 1 + 1 by omega]
    simpa [fcells] using this
/-- a slice of the call's own that reads as these fields -/
def FsOwn (B : Nat) (v : Value) (ps : List Fd) (w : World) : Prop := w.ownsRow B 47 2 v ps.length (fcells ps)
theorem FsOwn.nil (B : Nat) (w : World) : FsOwn B (.slice none 0 0) [] w := World.ownsRow_nil w B _ 2
theorem FsOwn.kept {w w' : World} {B : Nat} {v : Value} {ps : List Fd} (h : FsOwn B v ps w) (hb : Below w.heap.size w w') : FsOwn B v ps w' := ownsRow_kept h hb
def FdCells (w : World) (b o : Nat) (p : Fd) : Prop := w.cell? ⟨b, o, none⟩ = some (sv p.1) ∧ w.cell? ⟨b, o + 1, none⟩ = some (sv p.2)
theorem FdCells.kept {w w' : World} {b o : Nat} {p : Fd} (h : FdCells w b o p) (hlt : b < w.heap.size) (hb : Below w.heap.size w w') : FdCells w' b o p := by
  unfold FdCells
  rw [hb.cell (p := ⟨b, o, none⟩) hlt, hb.cell (p := ⟨b, o + 1, none⟩) hlt]
  exact h
/-- fields, wherever they read -/
def FsAt (w : World) (v : Value) (ps : List Fd) : Prop :=
  ∃ (A : Option Addr) (b off c : Nat), v = .slice A ps.length c ∧ ps.length ≤ c ∧ c ≤ maxLen ∧ (0 < ps.length → A = some ⟨b, off, none⟩ ∧ b < w.heap.size) ∧
    ∀ (j : Nat) (p : Fd), ps[j]? = some p → FdCells w b (off + j * 2) p
theorem FsAt.nil (w : World) (A : Option Addr) : FsAt w (.slice A 0 0) [] := ⟨A, 0, 0, 0, rfl, Nat.le_refl _, Nat.zero_le _, fun h => absurd h (by simp), fun j p h => by simp at h⟩
theorem FsAt.kept {w w' : World} {v : Value} {ps : List Fd} (h : FsAt w v ps) (hb : Below w.heap.size w w') : FsAt w' v ps := by
  obtain ⟨A, b, off, c, h1, h2, h3, h4, h5⟩ := h
  exact ⟨A, b, off, c, h1, h2, h3, fun hl => ⟨(h4 hl).1, Nat.lt_of_lt_of_le (h4 hl).2 hb.size⟩, fun j p hj => (h5 j p hj).kept (h4 (by have := (List.getElem?_eq_some_iff.1 hj).1; omega)).2 hb⟩
theorem FsAt.form {w : World} {v : Value} {ps : List Fd} (h : FsAt w v ps) : ∃ A c, v = .slice A ps.length c := by
  obtain ⟨A, b, off, c, h, _⟩ := h
  exact ⟨A, c, h⟩
theorem FsOwn.at {B : Nat} {v : Value} {ps : List Fd} {w : World} (h : FsOwn B v ps w) : FsAt w v ps := by
  obtain ⟨h1, h2 | ⟨g, cap, cur, e1, e2, e3, e4, e5, e6, e7⟩⟩ := h
  · obtain rfl : ps = [] := List.eq_nil_of_length_eq_zero h2.2
    exact ⟨none, 0, 0, 0, h2.1, by simp, by unfold maxLen; omega, fun h => absurd h (by simp), fun j l hj => by simp at hj⟩
  · refine ⟨_, g, 0, cap, e1, e4, e5, fun _ => ⟨rfl, (Array.getElem?_eq_some_iff.1 e3).1⟩, fun j p hj => ?_⟩
    have hlt := (List.getElem?_eq_some_iff.1 hj).1
    obtain ⟨c0, c1⟩ := fcells_at ps j p hj
    have key : ∀ i x, i < ps.length * 2 → (fcells ps)[i]? = some x → w.cell? ⟨g, 0 + i, none⟩ = some x := fun i x hi hx => by
      rw [Lib.cell_of_heap e3, Nat.zero_add]
      have : (cur.toList.take (ps.length * 2))[i]? = (fcells ps)[i]? := by rw [e7]
      rw [List.getElem?_take, if_pos hi, hx] at this
      rw [← Array.getElem?_toList, this]
    have k1 := key (j * 2 + 1) _ (by omega) c1
    rw [← Nat.add_assoc] at k1
    exact ⟨key _ _ (by omega) c0, k1⟩
/-- one field of a row, as it is loaded -/
theorem FsAt.field {w : World} {b off : Nat} {ps : List Fd} (h : ∀ (j : Nat) (p : Fd), ps[j]? = some p → FdCells w b (off + j * 2) p) (hlt : b < w.heap.size) {wr : World} (hb : Below w.heap.size w wr) {j : Nat} {p : Fd} (hj : ps[j]? = some p) :
    ∃ a1 a2 : ByteArray, a1.data.toList = p.1 ∧ a2.data.toList = p.2 ∧ wr.cell? ⟨b, off + j * 2, none⟩ = some (.string a1) ∧ wr.cell? ⟨b, off + j * 2 + 1, none⟩ = some (.string a2) := by
  obtain ⟨g0, g1⟩ := (h j p hj).kept hlt hb
  obtain ⟨a1, e1, d1⟩ := sv_some p.1
  obtain ⟨a2, e2, d2⟩ := sv_some p.2
  rw [e1] at g0
  rw [e2] at g1
  exact ⟨a1, a2, d1, d2, g0, g1⟩
/-- one field more -/
theorem append_field {w0 : World} {ops : Array Oper} {rest : List Oper} {o : Oper} {a : Act} {Q : Exit → Act → World → Prop} (p : Fd) (a1 a2 : ByteArray) (h1 : sv p.1 = .string a1) (h2 : sv p.2 = .string a2)
    (hgd : o.guard = none) (s xo : Operand) (ho : o.op = .call { callee := .builtin .append, args := #[s, xo], argTypes := #[22, 22] }) (base : Nat) (v : Value) (ps : List Fd) (g : Nat) (hgz : g = w0.heap.size) (hs : a.eval s = v) (hx : a.eval xo = .slice (some ⟨g, 0, none⟩) 1 1)
    (hown : FsOwn base v ps w0) (hl : ps.length ≤ 1099511627776) (hbase : base ≤ w0.heap.size)
    (h : ∀ v' w', FsOwn base v' (ps ++ [p]) w' → (w0.alloc (.cells #[.string a1, .string a2] 47)).grownBy w' v.ownBlock → wpList Tryd.prog ops Q rest (a.put o.dst v') w') :
    wpList Tryd.prog ops Q (o :: rest) a (w0.alloc (.cells #[.string a1, .string a2] 47)) := by
  obtain ⟨i0, hi, hz0, hz1, hz2⟩ := info_parts infoFd
  subst hgz
  have hrow : w0.ownsRow base 47 2 v ps.length (fcells ps) := hown
  refine wpList_append_own _ hgd s xo 22 ho base 47 i0 (.agg #[.string ⟨#[]⟩, .string ⟨#[]⟩]) 2 32 Tryd.underlying22 hi hz0 hz1 hz2 rfl (by decide) v ps.length (fcells ps) hs (World.ownsRow.alloc hrow _) ⟨w0.heap.size, 0, none⟩ 1 1 [.string a1, .string a2] hx rfl (fun j u hj => ?_) (fun u hu => ?_) (by unfold maxLen; omega) (by omega) (by simp; omega)
    (fun v' w' h5 h6 _ => h v' w' ?_ h6)
  · match j, hj with
    | 0, hj => simp at hj; subst hj; simp [Addr.add]
    | 1, hj => simp at hj; subst hj; simp [Addr.add]
  · simp at hu
    rcases hu with rfl | rfl <;> rfl
  · unfold FsOwn
    rw [fcells_snoc, List.length_append, h1, h2]
    exact h5

/-! ### contracts of the program's calls (G: what they want of memory, the library's tables) -/
def Keeps (G : World → Prop) : Prop := ∀ w w' : World, G w → Below w.heap.size w w' → G w'
abbrev mostS : Nat := 140737488355328
theorem most_of {s : ByteArray} (h : s.data.toList.length ≤ reachBytes) : s.size ≤ mostS := by
  have e : reachBytes = 140737488351232 := rfl
  rw [Lib.size_eq]; unfold mostS; omega
/-- what a parsed request is answered as -/
def AnsQ (r : ((Row × Row) × List Fd × Row × Nat) ⊕ Int) (e : Ending) (w' : World) : Prop := match r with
  | .inl (x, fs, body, n) => ∃ fv, e = .returned (.tuple #[.agg #[sv x.1, sv x.2, fv, sv body], .int .i64 (n : Int), .int .i64 0]) ∧ FsAt w' fv fs
  | .inr c => ∃ fv, e = .returned (.tuple #[.agg #[.string ⟨#[]⟩, .string ⟨#[]⟩, fv, .string ⟨#[]⟩], .int .i64 0, .int .i64 c]) ∧ FsAt w' fv []
def AnsA (r : (Nat × List Fd × Row × Nat) ⊕ Int) (e : Ending) (w' : World) : Prop := match r with
  | .inl (x, fs, body, n) => ∃ fv, e = .returned (.tuple #[.agg #[.int .i64 (x : Int), fv, sv body], .int .i64 (n : Int), .int .i64 0]) ∧ FsAt w' fv fs
  | .inr c => ∃ fv, e = .returned (.tuple #[.agg #[.int .i64 0, fv, .string ⟨#[]⟩], .int .i64 0, .int .i64 c]) ∧ FsAt w' fv []
def ParseQC (G : World → Prop) : Prop := ∀ (t : ByteArray) (w : World), t.size ≤ mostS → G w → Calls Tryd.prog 12 #[.string t] w fun e w' => AnsQ (readQ t.data.toList) e w' ∧ Below w.heap.size w w'
def ParseAC (G : World → Prop) : Prop := ∀ (t : ByteArray) (w : World), t.size ≤ mostS → G w → Calls Tryd.prog 18 #[.string t] w fun e w' => AnsA (readA t.data.toList) e w' ∧ Below w.heap.size w w'
/-- a request's first row; a response's -/
def rowQ (m t : Row) : Row := m ++ 32 :: (t ++ 32 :: verS)
def reason (n : Int) : Row :=
  if n = 200 then [79, 75] else if n = 201 then [67, 114, 101, 97, 116, 101, 100] else if n = 204 then [78, 111, 32, 67, 111, 110, 116, 101, 110, 116] else if n = 207 then [77, 117, 108, 116, 105, 45, 83, 116, 97, 116, 117, 115]
  else if n = 400 then [66, 97, 100, 32, 82, 101, 113, 117, 101, 115, 116] else if n = 403 then [70, 111, 114, 98, 105, 100, 100, 101, 110] else if n = 404 then [78, 111, 116, 32, 70, 111, 117, 110, 100]
  else if n = 405 then [77, 101, 116, 104, 111, 100, 32, 78, 111, 116, 32, 65, 108, 108, 111, 119, 101, 100] else if n = 409 then [67, 111, 110, 102, 108, 105, 99, 116] else if n = 412 then [80, 114, 101, 99, 111, 110, 100, 105, 116, 105, 111, 110, 32, 70, 97, 105, 108, 101, 100]
  else if n = 413 then [67, 111, 110, 116, 101, 110, 116, 32, 84, 111, 111, 32, 76, 97, 114, 103, 101] else if n = 421 then [77, 105, 115, 100, 105, 114, 101, 99, 116, 101, 100, 32, 82, 101, 113, 117, 101, 115, 116] else if n = 503 then [83, 101, 114, 118, 105, 99, 101, 32, 85, 110, 97, 118, 97, 105, 108, 97, 98, 108, 101]
  else if n = 507 then [73, 110, 115, 117, 102, 102, 105, 99, 105, 101, 110, 116, 32, 83, 116, 111, 114, 97, 103, 101] else [79, 116, 104, 101, 114]
def rowA (n : Nat) : Row := verS ++ 32 :: (decDigits n ++ 32 :: reason n)
def szF (fs : List Fd) : Nat := (fs.map fun f => f.1.length + f.2.length + 1).sum
abbrev mostF : Nat := 68719476736
def printQ (m t : Row) (fs : List Fd) (body : Row) : Row × Int := if asked m t = true then write (rowQ m t) fs body else ([], 80)
def printA (n : Int) (fs : List Fd) (body : Row) : Row × Int := if 100 ≤ n ∧ n ≤ 599 then write (rowA n.toNat) fs body else ([], 80)
def PrintQC (G : World → Prop) : Prop := ∀ (m t fv b : Value) (M T B : Row) (fs : List Fd) (w : World), m = sv M → t = sv T → b = sv B → FsAt w fv fs → M.length + T.length + B.length + szF fs ≤ mostF → G w →
  Calls Tryd.prog 9 #[.agg #[m, t, fv, b]] w fun e w' => e = .returned (.tuple #[sv (printQ M T fs B).1, .int .i64 (printQ M T fs B).2]) ∧ Below w.heap.size w w'
def PrintAC (G : World → Prop) : Prop := ∀ (n : Int) (fv b : Value) (B : Row) (fs : List Fd) (w : World), b = sv B → FsAt w fv fs → B.length + szF fs ≤ mostF → G w →
  Calls Tryd.prog 14 #[.agg #[.int .i64 n, fv, b]] w fun e w' => e = .returned (.tuple #[sv (printA n fs B).1, .int .i64 (printA n fs B).2]) ∧ Below w.heap.size w w'
/-- the first field of a name -/
def getF (fs : List Fd) (name : Row) : Option Row := (fs.find? fun f => decide (Ch.low f.1 = Ch.low name)).map fun f => f.2
def GetC (G : World → Prop) : Prop := ∀ (fv : Value) (fs : List Fd) (name : ByteArray) (w : World), FsAt w fv fs → name.size ≤ mostS → szF fs ≤ mostF → G w →
  Calls Tryd.prog 19 #[fv, .string name] w fun e w' => e = .returned (.tuple #[sv ((getF fs name.data.toList).getD []), .bool (getF fs name.data.toList).isSome]) ∧ Below w.heap.size w w'
def ReasonC (G : World → Prop) : Prop := ∀ (n : Int) (w : World), G w → Calls Tryd.prog 17 #[.int .i64 n] w fun e w' => e = .returned (sv (reason n)) ∧ Below w.heap.size w w'
end Go.Proofs.YtiaollhiggeolaaDoor.Ht
