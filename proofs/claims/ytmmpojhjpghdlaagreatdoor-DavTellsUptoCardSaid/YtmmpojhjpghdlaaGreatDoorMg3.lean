import Derived.Test.YtmmpojhjpghdlaaGreatDoorMg1
import Derived.Test.YtmmpojhjpghdlaaGreatDoorMg2
import Derived.Laws.AppendOwn
import Derived.Lib.Builder
import Derived.Below
import Derived.Lib.Hide
import Derived.Lib.IndexLaws
import Derived.KernelRfl
import Derived.OwnWalk
import Derived.WalkKit

/-
  HOW PIECES LIE IN MEMORY: in rows of the call's own ('PsOwn'), and wherever they read ('PcsAt').
-/
set_option linter.unusedVariables false
namespace Go.Proofs.YtmmpojhjpghdlaaGreatDoor.Xm
open Go.Lib Go.RowKit

theorem below_then {a b c : World} (h1 : Below a.heap.size a b) (h2 : Below b.heap.size b c) : Below a.heap.size a c := h1.trans (h2.mono h1.size)
theorem below_drewN {B : Nat} {a w : World} (n : Nat) (h : Below B a w) : Below B a (w.drewN n) := ⟨h.os, h.tape, h.output, h.size, h.block⟩
def sv (l : Row) : Value := .string ⟨l.toArray⟩
theorem sv_data (s : ByteArray) : sv s.data.toList = .string s := by unfold sv; rw [Lib.mk_data]
theorem sv_some (l : Row) : ∃ x : ByteArray, sv l = .string x ∧ x.data.toList = l := ⟨⟨l.toArray⟩, rfl, by simp⟩
theorem ownsRow_kept {w w' : World} {B : Nat} {e : TypeId} {size : Nat} {v : Value} {n : Nat} {xs : List Value} (h : w.ownsRow B e size v n xs) (hb : Below w.heap.size w w') : w'.ownsRow B e size v n xs := by
  refine ⟨h.1, ?_⟩
  rcases h.2 with h | ⟨g, cap, cur, e1, e2, e3, e4⟩
  · exact .inl h
  · exact .inr ⟨g, cap, cur, e1, e2, by rw [hb.block g (Array.getElem?_eq_some_iff.1 e3).1]; exact e3, e4⟩
theorem ownsRow_less {w : World} {B B' : Nat} {e : TypeId} {size : Nat} {v : Value} {n : Nat} {xs : List Value} (h : w.ownsRow B e size v n xs) (hb : B' ≤ B) : w.ownsRow B' e size v n xs := by
  refine ⟨h.1, ?_⟩
  rcases h.2 with h | ⟨g, cap, cur, e1, e2, e3, e4⟩
  · exact .inl h
  · exact .inr ⟨g, cap, cur, e1, Nat.le_trans hb e2, e3, e4⟩
theorem ownsRow_form {w : World} {B : Nat} {e : TypeId} {size : Nat} {v : Value} {n : Nat} {xs : List Value} (h : w.ownsRow B e size v n xs) : ∃ ao c, v = .slice ao n c := by
  rcases h.2 with ⟨hv, hn⟩ | ⟨g, cap, cur, e1, _⟩
  · exact ⟨none, 0, by rw [hv, hn]⟩
  · exact ⟨_, _, e1⟩
theorem info_parts {P : Program} {T : TypeId} {z : Value} {n by' : Nat} (h : (P.info? T).map (fun i => (i.zero, i.size, i.bytes)) = some (some z, n, by')) : ∃ i, P.info? T = some i ∧ i.zero = some z ∧ i.size = n ∧ i.bytes = by' := by
  cases hi : P.info? T with
  | none => rw [hi] at h; cases h
  | some i =>
    rw [hi] at h
    simp only [Option.map_some, Option.some.injEq, Prod.mk.injEq] at h
    exact ⟨i, rfl, h.1, h.2.1, h.2.2⟩
def zeroPc : Value := .agg #[.int .i64 0, .int .i64 0, .string ⟨#[]⟩, .string ⟨#[]⟩]
theorem infoPc : (Tryz.prog.info? 75).map (fun i => (i.zero, i.size, i.bytes)) = some (some zeroPc, 4, 48) := by kernel_rfl
/-- a piece by value -/
def pv (p : Pc) : Value := .agg #[.int .i64 p.kind, .int .i64 p.space, sv p.name, sv p.text]
def pcells : List Pc → List Value
  | [] => []
  | p :: ps => .int .i64 p.kind :: .int .i64 p.space :: sv p.name :: sv p.text :: pcells ps
theorem pcells_snoc : ∀ (ps : List Pc) (p : Pc), pcells (ps ++ [p]) = pcells ps ++ [.int .i64 p.kind, .int .i64 p.space, sv p.name, sv p.text]
  | [], _ => rfl
  | q :: ps, p => by
    have := pcells_snoc ps p
    simp only [List.cons_append, pcells, this]
theorem pcells_len : ∀ (ps : List Pc), (pcells ps).length = ps.length * 4
  | [] => rfl
  | p :: ps => by
    have := pcells_len ps
    simp only [pcells, List.length_cons]; omega
theorem pcells_at : ∀ (ps : List Pc) (j : Nat) (p : Pc), ps[j]? = some p →
    (pcells ps)[j * 4]? = some (.int .i64 p.kind) ∧ (pcells ps)[j * 4 + 1]? = some (.int .i64 p.space) ∧ (pcells ps)[j * 4 + 2]? = some (sv p.name) ∧ (pcells ps)[j * 4 + 3]? = some (sv p.text)
  | [], j, p, h => by simp at h
  | q :: ps, 0, p, h => by
    simp at h; subst h
    exact ⟨rfl, rfl, rfl, rfl⟩
  | q :: ps, j + 1, p, h => by
    have := pcells_at ps j p (by simpa using h)
    rw [show (j + 1) * 4 = j * 4 + 1 + 1 + 1 + 1 by omega]
    simpa [pcells] using this
theorem pcells_take : ∀ (ps : List Pc) (k : Nat), (pcells ps).take (k * 4) = pcells (ps.take k)
  | [], k => by simp [pcells]
  | p :: ps, 0 => rfl
  | p :: ps, k + 1 => by
    rw [show (k + 1) * 4 = k * 4 + 1 + 1 + 1 + 1 by omega]
    simp only [pcells, List.take_succ_cons, pcells_take ps k]
/-- a slice of the call's own that reads as these pieces -/
def PsOwn (B : Nat) (v : Value) (ps : List Pc) (w : World) : Prop := w.ownsRow B 75 4 v ps.length (pcells ps)
theorem PsOwn.nil (B : Nat) (w : World) : PsOwn B (.slice none 0 0) [] w := World.ownsRow_nil w B _ 4
theorem PsOwn.kept {w w' : World} {B : Nat} {v : Value} {ps : List Pc} (h : PsOwn B v ps w) (hb : Below w.heap.size w w') : PsOwn B v ps w' := ownsRow_kept h hb
theorem PsOwn.less {w : World} {B B' : Nat} {v : Value} {ps : List Pc} (h : PsOwn B v ps w) (hb : B' ≤ B) : PsOwn B' v ps w := ownsRow_less h hb
/-- one piece's cells -/
def PcCells (w : World) (b o : Nat) (p : Pc) : Prop := w.cell? ⟨b, o, none⟩ = some (.int .i64 p.kind) ∧ w.cell? ⟨b, o + 1, none⟩ = some (.int .i64 p.space) ∧ w.cell? ⟨b, o + 2, none⟩ = some (sv p.name) ∧ w.cell? ⟨b, o + 3, none⟩ = some (sv p.text)
theorem PcCells.kept {w w' : World} {b o : Nat} {p : Pc} (h : PcCells w b o p) (hlt : b < w.heap.size) (hb : Below w.heap.size w w') : PcCells w' b o p := by
  unfold PcCells
  rw [hb.cell (p := ⟨b, o, none⟩) hlt, hb.cell (p := ⟨b, o + 1, none⟩) hlt, hb.cell (p := ⟨b, o + 2, none⟩) hlt, hb.cell (p := ⟨b, o + 3, none⟩) hlt]
  exact h
/-- pieces, wherever they read -/
def PcsAt (w : World) (v : Value) (ps : List Pc) : Prop :=
  ∃ (A : Option Addr) (b off c : Nat), v = .slice A ps.length c ∧ ps.length ≤ c ∧ c ≤ maxLen ∧ (0 < ps.length → A = some ⟨b, off, none⟩ ∧ b < w.heap.size) ∧
    ∀ (j : Nat) (p : Pc), ps[j]? = some p → PcCells w b (off + j * 4) p
theorem PcsAt.nil (w : World) (A : Option Addr) : PcsAt w (.slice A 0 0) [] := ⟨A, 0, 0, 0, rfl, Nat.le_refl _, Nat.zero_le _, fun h => absurd h (by simp), fun j p h => by simp at h⟩
theorem PcsAt.kept {w w' : World} {v : Value} {ps : List Pc} (h : PcsAt w v ps) (hb : Below w.heap.size w w') : PcsAt w' v ps := by
  obtain ⟨A, b, off, c, h1, h2, h3, h4, h5⟩ := h
  exact ⟨A, b, off, c, h1, h2, h3, fun hl => ⟨(h4 hl).1, Nat.lt_of_lt_of_le (h4 hl).2 hb.size⟩, fun j p hj => (h5 j p hj).kept (h4 (by have := (List.getElem?_eq_some_iff.1 hj).1; omega)).2 hb⟩
theorem PcsAt.len {w : World} {v : Value} {ps : List Pc} (h : PcsAt w v ps) : ps.length ≤ maxLen := by
  obtain ⟨A, b, off, c, h1, h2, h3, _⟩ := h; omega
theorem PsOwn.at {B : Nat} {v : Value} {ps : List Pc} {w : World} (h : PsOwn B v ps w) : PcsAt w v ps := by
  obtain ⟨h1, h2 | ⟨g, cap, cur, e1, e2, e3, e4, e5, e6, e7⟩⟩ := h
  · obtain rfl : ps = [] := List.eq_nil_of_length_eq_zero h2.2
    exact ⟨none, 0, 0, 0, h2.1, by simp, by unfold maxLen; omega, fun h => absurd h (by simp), fun j l hj => by simp at hj⟩
  · refine ⟨_, g, 0, cap, e1, e4, e5, fun _ => ⟨rfl, (Array.getElem?_eq_some_iff.1 e3).1⟩, fun j p hj => ?_⟩
    have hlt := (List.getElem?_eq_some_iff.1 hj).1
    obtain ⟨c0, c1, c2, c3⟩ := pcells_at ps j p hj
    have key : ∀ i x, i < ps.length * 4 → (pcells ps)[i]? = some x → w.cell? ⟨g, 0 + i, none⟩ = some x := fun i x hi hx => by
      rw [Lib.cell_of_heap e3, Nat.zero_add]
      have : (cur.toList.take (ps.length * 4))[i]? = (pcells ps)[i]? := by rw [e7]
      rw [List.getElem?_take, if_pos hi, hx] at this
      rw [← Array.getElem?_toList, this]
    have k1 := key (j * 4 + 1) _ (by omega) c1
    have k2 := key (j * 4 + 2) _ (by omega) c2
    have k3 := key (j * 4 + 3) _ (by omega) c3
    rw [← Nat.add_assoc] at k1 k2 k3
    exact ⟨key _ _ (by omega) c0, k1, k2, k3⟩
/-- what is left where a row of the call's own is written -/
def Left (w0 : World) (base : Nat) (w' : World) : Prop := ∀ (B : Nat) (A : World), Below B A w0 → B ≤ base → B ≤ w0.heap.size → Below B A w'
theorem left_of {w0 w' : World} {base : Nat} {e : TypeId} {size n : Nat} {v : Value} {xs : List Value} {o : Obj} (hown : w0.ownsRow base e size v n xs) (hg : (w0.alloc o).grownBy w' v.ownBlock) : Left w0 base w' :=
  fun B A hb h1 h2 => (hb.alloc h2 o).grown hg (by simp; omega) (fun k hk => Nat.le_trans h1 (hown.lt k hk).1)
/-- one piece more -/
theorem append_piece {w0 : World} {ops : Array Oper} {rest : List Oper} {o : Oper} {a : Act} {Q : Exit → Act → World → Prop} (p : Pc) (a1 a2 : ByteArray) (k1 k2 : Int) (h1 : sv p.name = .string a1) (h2 : sv p.text = .string a2) (hk1 : p.kind = k1) (hk2 : p.space = k2)
    (hgd : o.guard = none) (s xo : Operand) (ho : o.op = .call { callee := .builtin .append, args := #[s, xo], argTypes := #[42, 42] }) (base : Nat) (v : Value) (ps : List Pc) (g : Nat) (hgz : g = w0.heap.size) (hs : a.eval s = v) (hx : a.eval xo = .slice (some ⟨g, 0, none⟩) 1 1)
    (hown : PsOwn base v ps w0) (hl : ps.length ≤ 1099511627776) (hbase : base ≤ w0.heap.size)
    (h : ∀ v' w', PsOwn base v' (ps ++ [p]) w' → (w0.alloc (.cells #[.int .i64 k1, .int .i64 k2, .string a1, .string a2] 75)).grownBy w' v.ownBlock → wpList Tryz.prog ops Q rest (a.put o.dst v') w') :
    wpList Tryz.prog ops Q (o :: rest) a (w0.alloc (.cells #[.int .i64 k1, .int .i64 k2, .string a1, .string a2] 75)) := by
  obtain ⟨i0, hi, hz0, hz1, hz2⟩ := info_parts infoPc
  subst hgz
  subst hk1
  subst hk2
  have hrow : w0.ownsRow base 75 4 v ps.length (pcells ps) := hown
  refine wpList_append_own _ hgd s xo 42 ho base 75 i0 zeroPc 4 48 Tryz.underlying42 hi hz0 hz1 hz2 rfl (by decide) v ps.length (pcells ps) hs (World.ownsRow.alloc hrow _) ⟨w0.heap.size, 0, none⟩ 1 1 [.int .i64 p.kind, .int .i64 p.space, .string a1, .string a2] hx rfl (fun j u hj => ?_) (fun u hu => ?_) (by unfold maxLen; omega) (by omega) (by simp; omega)
    (fun v' w' h5 h6 _ => h v' w' ?_ h6)
  · match j, hj with
    | 0, hj => simp at hj; subst hj; simp [Addr.add]
    | 1, hj => simp at hj; subst hj; simp [Addr.add]
    | 2, hj => simp at hj; subst hj; simp [Addr.add]
    | 3, hj => simp at hj; subst hj; simp [Addr.add]
  · simp at hu
    rcases hu with rfl | rfl | rfl | rfl <;> rfl
  · unfold PsOwn
    rw [pcells_snoc, List.length_append, h1, h2]
    exact h5
/-- one piece less -/
theorem PsOwn.pop {B : Nat} {A : Option Addr} {n c : Nat} {os : List Pc} {p : Pc} {w : World} (h : PsOwn B (.slice A n c) (os ++ [p]) w) : PsOwn B (.slice A os.length c) os w := by
  obtain ⟨h1, h2 | ⟨g, cap, cur, e1, e2, e3, e4, e5, e6, e7⟩⟩ := h
  · simp at h2
  · injection e1 with e1 e8 e9
    subst e1; subst e9
    rw [List.length_append, List.length_singleton] at e4 e7
    refine ⟨pcells_len os, .inr ⟨g, c, cur, rfl, e2, e3, by omega, e5, e6, ?_⟩⟩
    have := congrArg (List.take (os.length * 4)) e7
    rw [List.take_take, pcells_take, List.take_left, Nat.min_eq_left (by omega)] at this
    exact this
/-- an object beside a row of the call's own that grows -/
theorem beside {w w0 w' : World} {B i : Nat} {v : Value} {os : List Pc} {o : Obj} (h : PsOwn B v os w) (hi : w.heap.size ≤ i) (h0 : i < w0.heap.size) (hg : (w0.alloc o).grownBy w' v.ownBlock) : w'.heap[i]? = w0.heap[i]? := by
  rw [hg.block i (by simp; omega) (fun e => by
    have := (h.lt i e.symm).2
    omega)]
  exact ((Below.refl w0.heap.size w0).alloc (Nat.le_refl _) o).block i h0
end Go.Proofs.YtmmpojhjpghdlaaGreatDoor.Xm

/-
  PLAIN LAWS OF LAYER xml: the steps brought together ('go'), what a whole text is read as ('docP', 'parseX'), and a document's parts read one by one ('Runs').
-/
set_option linter.unusedVariables false
namespace Go.Proofs.YtmmpojhjpghdlaaGreatDoor.Xm

theorem remark_len {t v : Row} (h : remark t = some v) : v.length < t.length := by
  unfold remark at h
  cases hf : find [45, 45, 62] t with
  | none => rw [hf] at h; cases h
  | some p =>
    obtain ⟨a, r⟩ := p
    have := find_len (by simp) hf
    rw [hf, Option.bind_some] at h
    split at h
    · cases h
    · simp at h
      subst h
      omega
theorem opens_len {σ σ' : St} {t : Row} (h : opens σ t = some σ') : σ'.rest.length < t.length := by
  unfold opens at h
  split at h
  · cases h
  · cases hw : written t with
    | none => rw [hw] at h; cases h
    | some w =>
      obtain ⟨a, b, r⟩ := w
      have h1 := written_len hw
      rw [hw, Option.bind_some] at h
      cases hd : declsA r [] with
      | none => simp only [hd] at h; cases h
      | some d =>
        obtain ⟨u, own⟩ := d
        have h2 := decls_len _ hd
        simp only [hd, Option.bind_some] at h
        cases hs : spOf a (own ++ σ.env) with
        | none => rw [hs] at h; cases h
        | some sp =>
          rw [hs, Option.bind_some] at h
          split at h
          · simp at h; subst h; simp only [List.length_cons] at h2 ⊢; omega
          · simp at h; subst h; simp only [List.length_cons] at h2 ⊢; omega
          · cases h
theorem closes_len {σ σ' : St} {t : Row} (h : closes σ t = some σ') : σ'.rest.length < t.length := by
  unfold closes at h
  split at h
  · cases h
  · cases hw : written t with
    | none => rw [hw] at h; cases h
    | some w =>
      obtain ⟨a, b, r⟩ := w
      have h1 := written_len hw
      have h2 := dropWhile_len blk r
      rw [hw, Option.bind_some] at h
      simp only at h
      split at h
      · rename_i v e
        rw [e, List.length_cons] at h2
        split at h
        · simp at h; subst h; simp only; omega
        · cases h
      · cases h
theorem step_len {σ σ' : St} (h : step σ = some σ') : σ'.rest.length < σ.rest.length := by
  unfold step at h
  split at h
  · cases h
  · rename_i c t e
    rw [e]
    split at h
    · split at h
      · rename_i u
        cases hr : remark u with
        | none => rw [hr] at h; cases h
        | some v =>
          have := remark_len hr
          rw [hr] at h; simp at h; subst h
          simp only [List.length_cons]; omega
      · have := closes_len h
        simp only [List.length_cons]; omega
      · split at h
        · cases h
        · have := opens_len h
          simp only [List.length_cons]; omega
    · split at h
      · split at h
        · simp at h; subst h; simp
        · cases h
      · split at h
        · cases hf : find [59] t with
          | none => rw [hf] at h; cases h
          | some p =>
            obtain ⟨a, r⟩ := p
            have := find_len (by simp) hf
            rw [hf, Option.bind_some] at h
            cases he : ent a with
            | none => simp only [he] at h; cases h
            | some x =>
              simp only [he] at h; simp at h; subst h
              simp only [List.length_cons]; omega
        · simp at h; subst h; simp
def run : Nat → St → Option St
  | 0, σ => some σ
  | n + 1, σ => if σ.rest = [] then some σ else (step σ).bind (run n)
theorem run_fuel : ∀ (n m : Nat) (σ : St), σ.rest.length ≤ n → σ.rest.length ≤ m → run n σ = run m σ
  | 0, 0, σ, _, _ => rfl
  | 0, m + 1, σ, h, _ => by
    have : σ.rest = [] := List.eq_nil_of_length_eq_zero (by omega)
    unfold run; rw [if_pos this]
  | n + 1, 0, σ, _, h => by
    have : σ.rest = [] := List.eq_nil_of_length_eq_zero (by omega)
    unfold run; rw [if_pos this]
  | n + 1, m + 1, σ, h1, h2 => by
    unfold run
    split
    · rfl
    · cases hs : step σ with
      | none => rfl
      | some τ =>
        have := step_len hs
        simp only [Option.bind_some]
        exact run_fuel n m τ (by omega) (by omega)
/-- read to the end -/
def go (σ : St) : Option St := run σ.rest.length σ
theorem go_nil {σ : St} (h : σ.rest = []) : go σ = some σ := by unfold go; rw [h]; rfl
theorem go_step {σ : St} (h : σ.rest ≠ []) : go σ = (step σ).bind go := by
  unfold go
  cases hn : σ.rest.length with
  | zero => exact absurd (List.eq_nil_of_length_eq_zero hn) h
  | succ n =>
    show (if σ.rest = [] then some σ else (step σ).bind (run n)) = _
    rw [if_neg h]
    cases hs : step σ with
    | none => rfl
    | some τ =>
      have := step_len hs
      simp only [Option.bind_some]
      exact run_fuel n τ.rest.length τ (by omega) (Nat.le_refl _)
theorem go_some {σ τ : St} (h : step σ = some τ) : go σ = go τ := by
  rw [go_step, h, Option.bind_some]
  intro e
  unfold step at h
  rw [e] at h; cases h
theorem go_none {σ : St} (h0 : σ.rest ≠ []) (h : step σ = none) : go σ = none := by rw [go_step h0, h]; rfl
def init (s : Row) : St := ⟨s, [], [], [], [], false⟩
def xmlS : Row := [60, 63, 120, 109, 108]
def prolog (s : Row) : Option Row := if xmlS.isPrefixOf s = true then (find [63, 62] (s.drop 5)).map fun p => p.2 else some s
/-- a document's pieces -/
def fin (σ : St) : Option (List Pc) := if σ.had = true ∧ σ.stack = [] then some σ.pcs else none
def docP (s : Row) : Option (List Pc) := (prolog s).bind fun r => (go (init r)).bind fin
/-- what Parse answers -/
def parseX (s : Row) : List Pc × Int := if 65536 < s.length then ([], 11) else if Ch.valid s = false then ([], 10) else match docP s with
  | none => ([], 70)
  | some ps => (ps, 0)

/-! ### parts -/
def St.at (σ : St) (r : Row) : St := { σ with rest := r }
/-- a part that leads from one state to another, whatever is behind it -/
def Runs (σ : St) (a : Row) (σ' : St) : Prop := ∀ X, go (σ.at (a ++ X)) = go (σ'.at X)
theorem Runs.nil (σ : St) : Runs σ [] σ := fun X => rfl
theorem Runs.trans {σ τ υ : St} {a b : Row} (h : Runs σ a τ) (k : Runs τ b υ) : Runs σ (a ++ b) υ := fun X => by
  rw [List.append_assoc, h, k]
theorem runs_step {σ τ : St} {a : Row} (h : ∀ X, step (σ.at (a ++ X)) = some (τ.at X)) : Runs σ a τ := fun X => go_some (h X)

theorem step_chr {σ : St} {c : UInt8} {t : Row} (hr : σ.rest = c :: t) (h1 : c ≠ 60) (h2 : c ≠ 38) (hs : σ.stack ≠ []) : step σ = some { σ with rest := t, txt := σ.txt ++ [c] } := by
  unfold step
  rw [hr]
  simp only
  rw [if_neg h1]
  split
  · exact absurd (by assumption) hs
  · rw [if_neg h2]
theorem step_ent {σ : St} {t : Row} (hr : σ.rest = 38 :: t) (hs : σ.stack ≠ []) : step σ = (find [59] t).bind fun p => (ent p.1).map fun x => { σ with rest := p.2, txt := σ.txt ++ x } := by
  unfold step
  rw [hr]
  simp only
  rw [if_neg (by decide)]
  split
  · exact absurd (by assumption) hs
  · rw [if_pos trivial]
theorem step_out {σ : St} {c : UInt8} {t : Row} (hr : σ.rest = c :: t) (h1 : c ≠ 60) (hs : σ.stack = []) : step σ = if blk c = true then some { σ with rest := t } else none := by
  unfold step
  rw [hr]
  simp only
  rw [if_neg h1]
  split
  · rfl
  · rename_i e; rw [hs] at e; cases e
theorem step_end {σ : St} {t : Row} (hr : σ.rest = 60 :: 47 :: t) : step σ = closes σ t := by
  unfold step
  rw [hr]
  rfl
theorem step_remark {σ : St} {t : Row} (hr : σ.rest = 60 :: 33 :: 45 :: 45 :: t) : step σ = (remark t).map fun v => { σ with rest := v } := by
  unfold step
  rw [hr]
  rfl
/-- a remark -/
theorem runs_remark (σ : St) (t : Row) (h : ∀ k, t.getD k 0 = 45 → t.getD (k + 1) 0 = 45 → t.length ≤ k + 1) (hl : t.getLast? ≠ some 45) : Runs σ (remarkS ++ t ++ [45, 45, 62]) σ := runs_step fun X => by
  have e : remarkS ++ t ++ [45, 45, 62] ++ X = 60 :: 33 :: 45 :: 45 :: (t ++ 45 :: 45 :: 62 :: X) := by simp [remarkS]
  rw [e, step_remark (σ := σ.at (60 :: 33 :: 45 :: 45 :: (t ++ 45 :: 45 :: 62 :: X))) rfl]
  unfold remark
  rw [find_three 45 62 t X h hl, Option.bind_some, find_two_none 45 t h]; rfl
/-- a byte of characters -/
theorem runs_byte (σ : St) (c : UInt8) (h1 : c ≠ 60) (h2 : c ≠ 38) (hs : σ.stack ≠ []) : Runs σ [c] { σ with txt := σ.txt ++ [c] } := runs_step fun X => step_chr (σ := σ.at (c :: X)) rfl h1 h2 hs
/-- a character told -/
theorem runs_ent (σ : St) (s x : Row) (h1 : (59 : UInt8) ∉ s) (h2 : ent s = some x) (hs : σ.stack ≠ []) : Runs σ (38 :: (s ++ [59])) { σ with txt := σ.txt ++ x } := runs_step fun X => by
  have e1 : (38 :: (s ++ [59])) ++ X = 38 :: (s ++ 59 :: X) := by simp
  rw [e1, step_ent (σ := σ.at (38 :: (s ++ 59 :: X))) rfl hs, find_one s X h1, Option.bind_some]
  show (ent s).map _ = _
  rw [h2]; rfl
theorem ft_ne {c : UInt8} (h : ftB c = true) : c ≠ 33 ∧ c ≠ 47 ∧ c ≠ 63 := by
  unfold ftB at h
  have := of_decide_eq_true h
  refine ⟨?_, ?_, ?_⟩ <;> (intro e; subst e; revert this; decide)
theorem step_open {σ : St} {c : UInt8} {t : Row} (hc : ftB c = true) (hr : σ.rest = 60 :: c :: t) (h0 : σ.stack = [] → σ.had = false) : step σ = opens σ (c :: t) := by
  obtain ⟨h1, h2, _⟩ := ft_ne hc
  unfold step
  rw [hr]
  simp only
  rw [if_pos trivial]
  split
  · rename_i e; simp at e; exact absurd e.1 h1
  · rename_i e; simp at e; exact absurd e.1 h2
  · rw [if_neg (fun q => by rw [h0 q.1] at q; cases q.2)]
/-- an element's beginning -/
theorem runs_open (σ : St) (c : UInt8) (a d p n : Row) (own : Env) (sp : Int) (hc : ftB c = true) (hw : ∀ X, written (c :: (a ++ d ++ 62 :: X)) = some (p, n, d ++ 62 :: X)) (hd : ∀ X, declsA (d ++ 62 :: X) [] = some (62 :: X, own))
    (hsp : spOf p (own ++ σ.env) = some sp) (hk : σ.stack.length < 16) (h0 : σ.stack = [] → σ.had = false) :
    Runs σ (60 :: c :: (a ++ d ++ [62])) { σ with stack := ⟨p, n, sp, σ.env⟩ :: σ.stack, env := own ++ σ.env, pcs := flushed σ.pcs σ.txt ++ [⟨1, sp, n, []⟩], txt := [], had := true } := runs_step fun X => by
  have e1 : (60 :: c :: (a ++ d ++ [62])) ++ X = 60 :: c :: (a ++ d ++ 62 :: X) := by simp
  rw [e1, step_open (σ := σ.at (60 :: c :: (a ++ d ++ 62 :: X))) hc rfl h0]
  unfold opens
  rw [if_neg (by show ¬ 16 ≤ σ.stack.length; omega), hw X, Option.bind_some]
  simp only
  rw [hd X, Option.bind_some]
  show (spOf p (own ++ σ.env)).bind _ = _
  rw [hsp]; rfl
/-- an element without content -/
theorem runs_both (σ : St) (c : UInt8) (a d p n : Row) (own : Env) (sp : Int) (hc : ftB c = true) (hw : ∀ X, written (c :: (a ++ d ++ 47 :: 62 :: X)) = some (p, n, d ++ 47 :: 62 :: X)) (hd : ∀ X, declsA (d ++ 47 :: 62 :: X) [] = some (47 :: 62 :: X, own))
    (hsp : spOf p (own ++ σ.env) = some sp) (hk : σ.stack.length < 16) (h0 : σ.stack = [] → σ.had = false) :
    Runs σ (60 :: c :: (a ++ d ++ [47, 62])) { σ with pcs := flushed σ.pcs σ.txt ++ [⟨1, sp, n, []⟩, ⟨2, sp, n, []⟩], txt := [], had := true } := runs_step fun X => by
  have e1 : (60 :: c :: (a ++ d ++ [47, 62])) ++ X = 60 :: c :: (a ++ d ++ 47 :: 62 :: X) := by simp
  rw [e1, step_open (σ := σ.at (60 :: c :: (a ++ d ++ 47 :: 62 :: X))) hc rfl h0]
  unfold opens
  rw [if_neg (by show ¬ 16 ≤ σ.stack.length; omega), hw X, Option.bind_some]
  simp only
  rw [hd X, Option.bind_some]
  show (spOf p (own ++ σ.env)).bind _ = _
  rw [hsp]; rfl
/-- an element's end -/
theorem runs_close (σ : St) (a p n : Row) (e : El) (st : List El) (hs : σ.stack = e :: st) (hw : ∀ X, written (a ++ 62 :: X) = some (p, n, 62 :: X)) (hp : p = e.pre) (hn : n = e.name) :
    Runs σ (60 :: 47 :: (a ++ [62])) { σ with stack := st, env := e.env, pcs := flushed σ.pcs σ.txt ++ [⟨2, e.space, e.name, []⟩], txt := [] } := runs_step fun X => by
  have e1 : (60 :: 47 :: (a ++ [62])) ++ X = 60 :: 47 :: (a ++ 62 :: X) := by simp
  rw [e1, step_end (σ := σ.at (60 :: 47 :: (a ++ 62 :: X))) rfl]
  unfold closes
  show (match σ.stack with | [] => _ | e :: st => _) = _
  rw [hs]
  simp only
  rw [hw X, Option.bind_some]
  simp only
  rw [show List.dropWhile blk (62 :: X) = 62 :: X from rfl]
  simp only
  rw [if_pos ⟨hp, hn⟩]
  rfl
/-- blanks -/
theorem runs_blank (σ : St) (c : UInt8) (h : blk c = true) (hs : σ.stack = []) : Runs σ [c] σ := runs_step fun X => by
  have h1 : c ≠ 60 := fun e => by rw [e] at h; revert h; decide
  show step (σ.at (c :: X)) = _
  rw [step_out (σ := σ.at (c :: X)) rfl h1 hs, if_pos h]; rfl
end Go.Proofs.YtmmpojhjpghdlaaGreatDoor.Xm

/-
  PLAIN LAWS OF LAYER xml: pieces that are a document's ('rgt'), how they are printed ('chunks', 'prX'), and that what is printed is read as itself, part by part.
-/
set_option linter.unusedVariables false
namespace Go.Proofs.YtmmpojhjpghdlaaGreatDoor.Xm

/-! ### which pieces -/
def okTag (p : Pc) : Bool := p.text.isEmpty && decide (0 ≤ p.space ∧ p.space ≤ 2) && nameB p.name
def okTxt (p : Pc) : Bool := p.name.isEmpty && decide (p.space = 0) && (Ch.valid p.text && !blanks p.text)
/-- are pieces a document's? f: is the first one to come; c: was the last one characters; st: what is open -/
def rgt : Bool → Bool → List (Row × Int) → List Pc → Bool
  | f, _, st, [] => !f && st.isEmpty
  | f, c, st, p :: r => (f || !st.isEmpty) && (if p.kind = 1 then okTag p && decide (st.length < 16) && rgt false false ((p.name, p.space) :: st) r
    else if p.kind = 2 then okTag p && (match st with
      | [] => false
      | e :: s => decide (e = (p.name, p.space)) && rgt false false s r)
    else if p.kind = 3 then !f && !c && okTxt p && rgt false true st r else false)
def right (ps : List Pc) : Bool := rgt true false [] ps

/-! ### how they are printed -/
def preS (sp : Int) : Row := if sp = 1 then [68] else if sp = 2 then [67] else []
def nm (p : Pc) : Row := if p.space = 1 then 68 :: 58 :: p.name else if p.space = 2 then 67 :: 58 :: p.name else p.name
def declS : Row := 32 :: (xmlnsS ++ 58 :: ([68] ++ 61 :: 34 :: (davS ++ 34 :: (32 :: (xmlnsS ++ 58 :: ([67] ++ 61 :: 34 :: (cardS ++ [34])))))))
def esc (c : UInt8) : Row := if c = 38 then [38, 97, 109, 112, 59] else if c = 60 then [38, 108, 116, 59] else if c = 62 then [38, 103, 116, 59] else if c = 13 then [38, 35, 49, 51, 59] else [c]
def escT (t : Row) : Row := t.flatMap esc
def nextC (r : List Pc) : Bool := match r with
  | [] => false
  | q :: _ => decide (q.kind = 2)
/-- what one piece adds; f: is it the first; o: was the one ahead an element's beginning; r: what comes -/
def chunk (f o : Bool) (p : Pc) (r : List Pc) : Row :=
  (if p.kind = 1 then 60 :: (nm p ++ (if f = true then declS else []) ++ (if nextC r = true then [47, 62] else [62])) else []) ++ ((if p.kind = 2 ∧ o = false then 60 :: 47 :: (nm p ++ [62]) else []) ++ escT p.text)
def chunks : Bool → Bool → List Pc → List Row
  | _, _, [] => []
  | f, o, p :: r => chunk f o p r :: chunks false (decide (p.kind = 1)) r
def prX (ps : List Pc) : Row := (chunks true false ps).flatten

/-! ### declarations and characters read -/
theorem decls_pre (p v r : Row) (q : UInt8) (own : Env) (hp : nameB p = true) (hq : q = 34 ∨ q = 39) (hv : q ∉ v) (h60 : (60 : UInt8) ∉ v) (hl : look p own = none) :
    declsA (32 :: (xmlnsS ++ 58 :: (p ++ 61 :: q :: (v ++ q :: r)))) own = declsA r ((p, spaceOf v) :: own) := by
  rw [declsA_more rfl]
  show (decl (xmlnsS ++ 58 :: (p ++ 61 :: q :: (v ++ q :: r)))).bind _ = _
  unfold decl
  rw [written_pre xmlnsS p _ (by decide) hp (fun x hx => by simp at hx; rw [← hx]; decide), Option.bind_some]
  show ((declares xmlnsS p).bind fun pre => (quoted (61 :: q :: (v ++ q :: r))).map _).bind _ = _
  unfold declares
  rw [if_neg (fun e => by cases e.1), if_pos rfl, Option.bind_some]
  show ((if q = 34 ∨ q = 39 then _ else _ : Option (Row × Row)).map _).bind _ = _
  rw [if_pos hq, find_one v r hv, Option.bind_some]
  simp only
  rw [if_neg h60]
  show (if (look p own).isSome = true then none else _) = _
  rw [hl, if_neg (by decide)]
theorem decls_bare (v r : Row) (q : UInt8) (own : Env) (hq : q = 34 ∨ q = 39) (hv : q ∉ v) (h60 : (60 : UInt8) ∉ v) (hl : look [] own = none) :
    declsA (32 :: (xmlnsS ++ 61 :: q :: (v ++ q :: r))) own = declsA r (([], spaceOf v) :: own) := by
  rw [declsA_more rfl]
  show (decl (xmlnsS ++ 61 :: q :: (v ++ q :: r))).bind _ = _
  unfold decl
  rw [written_bare xmlnsS _ (by decide) (fun x hx => by simp at hx; rw [← hx]; decide), Option.bind_some]
  show ((declares [] xmlnsS).bind fun pre => (quoted (61 :: q :: (v ++ q :: r))).map _).bind _ = _
  unfold declares
  rw [if_pos ⟨rfl, rfl⟩, Option.bind_some]
  show ((if q = 34 ∨ q = 39 then _ else _ : Option (Row × Row)).map _).bind _ = _
  rw [if_pos hq, find_one v r hv, Option.bind_some]
  simp only
  rw [if_neg h60]
  show (if (look [] own).isSome = true then none else _) = _
  rw [hl, if_neg (by decide)]
def envD : Env := [([67], 2), ([68], 1)]
theorem decls_doc (r : Row) (h : more r = false) (hb : r.dropWhile blk = r) : declsA (declS ++ r) [] = some (r, envD) := by
  have e : declS ++ r = 32 :: (xmlnsS ++ 58 :: ([68] ++ 61 :: 34 :: (davS ++ 34 :: (32 :: (xmlnsS ++ 58 :: ([67] ++ 61 :: 34 :: (cardS ++ 34 :: r))))))) := by simp [declS, xmlnsS, davS, cardS]
  rw [e, decls_pre [68] davS _ 34 [] (by decide) (.inl rfl) (by decide) (by decide) rfl, decls_pre [67] cardS _ 34 _ (by decide) (.inl rfl) (by decide) (by decide) rfl, declsA_end h, hb]
  rfl
theorem decls_none (c : UInt8) (X : Row) (h : blk c = false) : declsA (c :: X) [] = some (c :: X, []) := by
  rw [declsA_end (by show (blk c && _) = false; rw [h]; rfl)]
  simp [h]
theorem runs_esc (σ : St) (c : UInt8) (hs : σ.stack ≠ []) : Runs σ (esc c) { σ with txt := σ.txt ++ [c] } := by
  unfold esc
  by_cases h1 : c = 38
  · rw [if_pos h1, h1]; exact runs_ent σ [97, 109, 112] [38] (by decide) rfl hs
  · rw [if_neg h1]
    by_cases h2 : c = 60
    · rw [if_pos h2, h2]; exact runs_ent σ [108, 116] [60] (by decide) rfl hs
    · rw [if_neg h2]
      by_cases h3 : c = 62
      · rw [if_pos h3, h3]; exact runs_ent σ [103, 116] [62] (by decide) rfl hs
      · rw [if_neg h3]
        by_cases h4 : c = 13
        · rw [if_pos h4, h4]; exact runs_ent σ [35, 49, 51] [13] (by decide) (by decide +kernel) hs
        · rw [if_neg h4]; exact runs_byte σ c h2 h1 hs
theorem runs_escT : ∀ (t : Row) (σ : St), σ.stack ≠ [] → Runs σ (escT t) { σ with txt := σ.txt ++ t }
  | [], σ, _ => by simpa [escT] using Runs.nil σ
  | c :: t, σ, hs => by
    have h1 := runs_esc σ c hs
    have h2 := runs_escT t { σ with txt := σ.txt ++ [c] } hs
    have := h1.trans h2
    have e : esc c ++ escT t = escT (c :: t) := by simp [escT]
    rw [e] at this
    simpa using this
theorem flushed_nil (ps : List Pc) : flushed ps [] = ps := by exact if_pos rfl
theorem written_nm (p : Pc) (r : Row) (hn : nameB p.name = true) (hr : ∀ x, r.head? = some x → nxB x = false ∧ x ≠ 58) : written (nm p ++ r) = some (preS p.space, p.name, r) := by
  unfold nm preS
  by_cases h1 : p.space = 1
  · rw [if_pos h1, if_pos h1]
    exact written_pre [68] p.name r (by decide) hn (fun x hx => (hr x hx).1)
  · rw [if_neg h1, if_neg h1]
    by_cases h2 : p.space = 2
    · rw [if_pos h2, if_pos h2]
      exact written_pre [67] p.name r (by decide) hn (fun x hx => (hr x hx).1)
    · rw [if_neg h2, if_neg h2]
      exact written_bare p.name r hn hr
theorem nm_head (p : Pc) (hn : nameB p.name = true) : ∃ c t, nm p = c :: t ∧ ftB c = true := by
  unfold nm
  by_cases h1 : p.space = 1
  · rw [if_pos h1]; exact ⟨_, _, rfl, by decide⟩
  · rw [if_neg h1]
    by_cases h2 : p.space = 2
    · rw [if_pos h2]; exact ⟨_, _, rfl, by decide⟩
    · rw [if_neg h2]
      cases hp : p.name with
      | nil => rw [hp] at hn; cases hn
      | cons c t => rw [hp] at hn; exact ⟨c, t, rfl, nameB_head hn⟩
theorem sp_envD {sp : Int} (h : 0 ≤ sp ∧ sp ≤ 2) : spOf (preS sp) envD = some sp := by
  have : sp = 0 ∨ sp = 1 ∨ sp = 2 := by omega
  rcases this with rfl | rfl | rfl <;> decide

/-! ### piece by piece -/
structure Inv (f c : Bool) (st : List (Row × Int)) (σ : St) : Prop where
  stk : σ.stack.map (fun e => (e.name, e.space)) = st
  pre : ∀ e ∈ σ.stack, e.pre = preS e.space
  env : σ.stack ≠ [] → σ.env = envD
  envs : ∀ e ∈ σ.stack.dropLast, e.env = envD
  had : σ.had = !f
  top : f = true → σ.env = []
  txt : c = false → σ.txt = []
  full : c = true → blanks σ.txt = false
def done (σ : St) : List Pc := flushed σ.pcs σ.txt
theorem Inv.len {f c : Bool} {st : List (Row × Int)} {σ : St} (h : Inv f c st σ) : σ.stack.length = st.length := by rw [← h.stk]; simp
theorem Inv.nil {f c : Bool} {st : List (Row × Int)} {σ : St} (h : Inv f c st σ) : σ.stack = [] ↔ st = [] := by
  rw [← h.stk]; simp
theorem tag_eq {p : Pc} {k : Int} (hk : p.kind = k) (h : okTag p = true) : p = ⟨k, p.space, p.name, []⟩ ∧ (0 ≤ p.space ∧ p.space ≤ 2) ∧ nameB p.name = true := by
  unfold okTag at h
  simp only [Bool.and_eq_true, decide_eq_true_eq, List.isEmpty_iff] at h
  obtain ⟨⟨h1, h2⟩, h3⟩ := h
  refine ⟨?_, h2, h3⟩
  cases p
  simp only at hk h1
  subst hk; subst h1; rfl
/-- the root's state and a later one: what an element's beginning finds declared -/
theorem env_here {f c : Bool} {st : List (Row × Int)} {σ : St} (h : Inv f c st σ) (hf : f = true ∨ st ≠ []) (r : Row) (hr : ∃ x t, r = x :: t ∧ (x = 47 ∨ x = 62)) :
    declsA ((if f = true then declS else []) ++ r) [] = some (r, if f = true then envD else []) ∧ (if f = true then envD else []) ++ σ.env = envD := by
  obtain ⟨x, t, rfl, hx⟩ := hr
  have hb : blk x = false := by rcases hx with rfl | rfl <;> decide
  cases f with
  | true =>
    rw [if_pos rfl, if_pos rfl, h.top rfl]
    exact ⟨decls_doc _ (by show (blk x && _) = false; rw [hb]; rfl) (by simp [hb]), by simp⟩
  | false =>
    rw [if_neg (by decide), if_neg (by decide)]
    refine ⟨decls_none x t hb, ?_⟩
    rw [h.env (fun e => ?_)]
    · rfl
    · rcases hf with e1 | e1
      · cases e1
      · exact e1 (h.nil.1 e)
theorem Inv.open {f c : Bool} {st : List (Row × Int)} {σ : St} {p : Pc} (h : Inv f c st σ) (hf : f = true ∨ st ≠ []) (hfs : f = true → st = []) (hk : p.kind = 1) (hp : okTag p = true) (hl : st.length < 16) :
    ∃ τ, Runs σ (60 :: (nm p ++ (if f = true then declS else []) ++ [62])) τ ∧ Inv false false ((p.name, p.space) :: st) τ ∧ done τ = done σ ++ [p] := by
  obtain ⟨e, hs, hn⟩ := tag_eq hk hp
  obtain ⟨x, t, ht, hx⟩ := nm_head p hn
  have hE := fun X => env_here h hf (62 :: X) ⟨62, X, rfl, .inr rfl⟩
  have hw : ∀ X, written (x :: (t ++ (if f = true then declS else []) ++ 62 :: X)) = some (preS p.space, p.name, (if f = true then declS else []) ++ 62 :: X) := fun X => by
    have := written_nm p ((if f = true then declS else []) ++ 62 :: X) hn (fun y hy => by
      cases f with
      | true => rw [if_pos rfl] at hy; cases hy; decide
      | false => rw [if_neg (by decide)] at hy; cases hy; decide)
    rw [ht] at this
    simpa using this
  have hr := runs_open σ x t (if f = true then declS else []) (preS p.space) p.name (if f = true then envD else []) p.space hx hw (fun X => (hE X).1) (by rw [(hE []).2]; exact sp_envD hs) (by rw [h.len]; exact hl) (fun q => by
    rw [h.had]
    cases f with
    | true => rfl
    | false =>
      rcases hf with e1 | e1
      · cases e1
      · exact absurd (h.nil.1 q) e1)
  refine ⟨_, by rw [ht]; simpa using hr, ⟨by simp [h.stk], fun e' he => ?_, fun _ => (hE []).2, fun e' he => ?_, rfl, fun q => (by cases q), fun _ => rfl, fun q => (by cases q)⟩, ?_⟩
  · rcases List.mem_cons.1 he with rfl | he
    · rfl
    · exact h.pre _ he
  · cases hst : σ.stack with
    | nil => simp only [hst] at he; cases he
    | cons a b =>
      simp only [hst, List.dropLast_cons_cons] at he
      rcases List.mem_cons.1 he with rfl | he
      · exact h.env (by rw [hst]; simp)
      · exact h.envs _ (by rw [hst]; exact he)
  · show flushed (done σ ++ _) [] = _
    rw [flushed_nil, ← e]
theorem Inv.both {f c : Bool} {st : List (Row × Int)} {σ : St} {p q : Pc} (h : Inv f c st σ) (hf : f = true ∨ st ≠ []) (hfs : f = true → st = []) (hk : p.kind = 1) (hp : okTag p = true) (hl : st.length < 16)
    (hk' : q.kind = 2) (hq : okTag q = true) (hpq : (p.name, p.space) = (q.name, q.space)) :
    ∃ τ, Runs σ (60 :: (nm p ++ (if f = true then declS else []) ++ [47, 62])) τ ∧ Inv false false st τ ∧ done τ = done σ ++ [p, q] := by
  obtain ⟨e, hs, hn⟩ := tag_eq hk hp
  obtain ⟨e', _, _⟩ := tag_eq hk' hq
  obtain ⟨x, t, ht, hx⟩ := nm_head p hn
  have hE := fun X => env_here h hf (47 :: 62 :: X) ⟨47, 62 :: X, rfl, .inl rfl⟩
  have hw : ∀ X, written (x :: (t ++ (if f = true then declS else []) ++ 47 :: 62 :: X)) = some (preS p.space, p.name, (if f = true then declS else []) ++ 47 :: 62 :: X) := fun X => by
    have := written_nm p ((if f = true then declS else []) ++ 47 :: 62 :: X) hn (fun y hy => by
      cases f with
      | true => rw [if_pos rfl] at hy; cases hy; decide
      | false => rw [if_neg (by decide)] at hy; cases hy; decide)
    rw [ht] at this
    simpa using this
  have hr := runs_both σ x t (if f = true then declS else []) (preS p.space) p.name (if f = true then envD else []) p.space hx hw (fun X => (hE X).1) (by rw [(hE []).2]; exact sp_envD hs) (by rw [h.len]; exact hl) (fun q => by
    rw [h.had]
    cases f with
    | true => rfl
    | false =>
      rcases hf with e1 | e1
      · cases e1
      · exact absurd (h.nil.1 q) e1)
  refine ⟨{ σ with pcs := flushed σ.pcs σ.txt ++ [⟨1, p.space, p.name, []⟩, ⟨2, p.space, p.name, []⟩], txt := [], had := true }, by rw [ht]; simpa using hr, ⟨h.stk, h.pre, fun q => ?_, h.envs, rfl, fun q => (by cases q), fun _ => rfl, fun q => (by cases q)⟩, ?_⟩
  · exact h.env q
  · show flushed (done σ ++ _) [] = _
    injection hpq with e1 e2
    rw [flushed_nil, e1, e2, ← e', ← e1, ← e2, ← e]
theorem Inv.close {c : Bool} {st : List (Row × Int)} {σ : St} {p : Pc} (h : Inv false c ((p.name, p.space) :: st) σ) (hk : p.kind = 2) (hp : okTag p = true) :
    ∃ τ, Runs σ (60 :: 47 :: (nm p ++ [62])) τ ∧ Inv false false st τ ∧ done τ = done σ ++ [p] := by
  obtain ⟨e, hs, hn⟩ := tag_eq hk hp
  have hstk := h.stk
  cases hst : σ.stack with
  | nil => rw [hst] at hstk; cases hstk
  | cons a b =>
    rw [hst, List.map_cons] at hstk
    injection hstk with h1 h2
    injection h1 with h3 h4
    have hpre := h.pre a (by rw [hst]; simp)
    have hr := runs_close σ (nm p) (preS p.space) p.name a b hst (fun X => written_nm p (62 :: X) hn (fun y hy => by cases hy; decide)) (by rw [hpre, h4]) h3.symm
    refine ⟨_, hr, ⟨h2, fun e' he => h.pre e' (by rw [hst]; simp [show e' ∈ b from he]), fun q => ?_, fun e' he => h.envs e' ?_, h.had, fun q => (by cases q), fun _ => rfl, fun q => (by cases q)⟩, ?_⟩
    · refine h.envs a ?_
      rw [hst]
      cases b with
      | nil => exact absurd rfl q
      | cons u v => simp
    · rw [hst]
      cases b with
      | nil => cases he
      | cons u v => simp only [List.dropLast_cons_cons]; exact List.mem_cons_of_mem _ he
    · show flushed (done σ ++ [⟨2, a.space, a.name, []⟩]) [] = _
      rw [flushed_nil, h3, h4, ← e]
theorem Inv.chars {st : List (Row × Int)} {σ : St} {p : Pc} (h : Inv false false st σ) (hst : st ≠ []) (hk : p.kind = 3) (hp : okTxt p = true) :
    ∃ τ, Runs σ (escT p.text) τ ∧ Inv false true st τ ∧ done τ = done σ ++ [p] := by
  unfold okTxt at hp
  simp only [Bool.and_eq_true, decide_eq_true_eq, List.isEmpty_iff, Bool.not_eq_true'] at hp
  obtain ⟨⟨h1, h2⟩, _, h4⟩ := hp
  have ht := h.txt rfl
  refine ⟨_, runs_escT p.text σ (fun e => hst (h.nil.1 e)), ⟨h.stk, h.pre, h.env, h.envs, h.had, h.top, fun q => (by cases q), fun _ => ?_⟩, ?_⟩
  · show blanks (σ.txt ++ p.text) = false
    rw [ht]; exact h4
  · show flushed σ.pcs (σ.txt ++ p.text) = flushed σ.pcs σ.txt ++ [p]
    rw [ht, flushed_nil, List.nil_append]
    unfold flushed
    rw [if_neg (by rw [h4]; decide)]
    congr 2
    cases p
    simp only at hk h1 h2
    subst hk; subst h1; subst h2; rfl
end Go.Proofs.YtmmpojhjpghdlaaGreatDoor.Xm

/-
  PLAIN LAWS OF LAYER xml: what is printed is read as itself ('doc_pr'), also with a remark ahead of a tag ('doc_remark'); it is a valid text.
-/
set_option linter.unusedVariables false
namespace Go.Proofs.YtmmpojhjpghdlaaGreatDoor.Xm

theorem chunk_o {f o : Bool} {p : Pc} {r : List Pc} (h : p.kind ≠ 2) : chunk f o p r = chunk f false p r := by simp [chunk, h]
theorem chunks_o {o : Bool} {r : List Pc} (h : nextC r = false) : chunks false o r = chunks false false r := by
  cases r with
  | nil => rfl
  | cons q r =>
    unfold chunks
    rw [chunk_o (of_decide_eq_false h)]
theorem chunk_open {f : Bool} {p : Pc} {r : List Pc} (hk : p.kind = 1) (ht : p.text = []) : chunk f false p r = 60 :: (nm p ++ (if f = true then declS else []) ++ (if nextC r = true then [47, 62] else [62])) := by simp [chunk, hk, ht, escT]
theorem chunk_shut {p : Pc} {r : List Pc} (hk : p.kind = 2) (ht : p.text = []) : chunk false true p r = [] := by simp [chunk, hk, ht, escT]
theorem chunk_close {p : Pc} {r : List Pc} (hk : p.kind = 2) (ht : p.text = []) : chunk false false p r = 60 :: 47 :: (nm p ++ [62]) := by simp [chunk, hk, ht, escT]
theorem chunk_chars {f o : Bool} {p : Pc} {r : List Pc} (hk : p.kind = 3) : chunk f o p r = escT p.text := by simp [chunk, hk]
theorem tag_text {p : Pc} (h : okTag p = true) : p.text = [] := by
  unfold okTag at h
  simp only [Bool.and_eq_true, List.isEmpty_iff] at h
  exact h.1.1
/-- what rgt asks of the first piece -/
theorem rgt_cons {f c : Bool} {st : List (Row × Int)} {p : Pc} {r : List Pc} (h : rgt f c st (p :: r) = true) : (f = true ∨ st ≠ []) ∧
    ((p.kind = 1 ∧ okTag p = true ∧ st.length < 16 ∧ rgt false false ((p.name, p.space) :: st) r = true) ∨
     (p.kind = 2 ∧ okTag p = true ∧ ∃ s, st = (p.name, p.space) :: s ∧ rgt false false s r = true) ∨
     (p.kind = 3 ∧ f = false ∧ c = false ∧ okTxt p = true ∧ rgt false true st r = true)) := by
  unfold rgt at h
  simp only [Bool.and_eq_true, Bool.or_eq_true, Bool.not_eq_true', List.isEmpty_eq_false_iff] at h
  obtain ⟨h0, h⟩ := h
  refine ⟨h0, ?_⟩
  split at h
  · rename_i hk
    simp only [Bool.and_eq_true, decide_eq_true_eq] at h
    exact .inl ⟨hk, h.1.1, h.1.2, h.2⟩
  · split at h
    · rename_i hk
      simp only [Bool.and_eq_true] at h
      obtain ⟨h1, h2⟩ := h
      split at h2
      · cases h2
      · rename_i e s
        simp only [Bool.and_eq_true, decide_eq_true_eq] at h2
        exact .inr (.inl ⟨hk, h1, s, by rw [h2.1], h2.2⟩)
    · split at h
      · rename_i hk
        simp only [Bool.and_eq_true, Bool.not_eq_true'] at h
        exact .inr (.inr ⟨hk, h.1.1.1, h.1.1.2, h.1.2, h.2⟩)
      · cases h
/-- the state when all is read -/
def Ended (σ τ : St) (ps : List Pc) : Prop := τ.stack = [] ∧ τ.had = true ∧ τ.pcs = done σ ++ ps
theorem take_flat_zero (c : Row) (C : List Row) : ((c :: C).take 0).flatten = [] := rfl
theorem take_flat_succ (c : Row) (C : List Row) (j : Nat) : ((c :: C).take (j + 1)).flatten = c ++ (C.take j).flatten := by simp
theorem runs_to : ∀ (n : Nat) (ps : List Pc) (f c : Bool) (st : List (Row × Int)) (σ : St), ps.length ≤ n → Inv f c st σ → (f = true → st = []) → (c = true → st ≠ []) → rgt f c st ps = true →
    ∀ j, ∃ τ, Runs σ (((chunks f false ps).take j).flatten) τ ∧ (ps.length ≤ j → Ended σ τ ps)
  | _, [], f, c, st, σ, _, hI, _, hc, hr, j => by
    unfold rgt at hr
    simp only [Bool.and_eq_true, Bool.not_eq_true', List.isEmpty_iff] at hr
    have hc0 : c = false := by
      cases c with
      | false => rfl
      | true => exact absurd hr.2 (hc rfl)
    refine ⟨σ, by simpa [chunks] using Runs.nil σ, fun _ => ⟨hI.nil.2 hr.2, by rw [hI.had, hr.1]; rfl, ?_⟩⟩
    unfold done
    rw [hI.txt hc0, flushed_nil, List.append_nil]
  | 0, p :: r, _, _, _, _, h, _, _, _, _, _ => by simp at h
  | n + 1, p :: r, f, c, st, σ, hn, hI, hf, hc, hr, 0 => ⟨σ, Runs.nil σ, fun h => by simp at h⟩
  | n + 1, p :: r, f, c, st, σ, hn, hI, hf, hc, hr, j + 1 => by
    have hn' : r.length ≤ n := by simpa using hn
    obtain ⟨h0, hk⟩ := rgt_cons hr
    have hch : chunks f false (p :: r) = chunk f false p r :: chunks false (decide (p.kind = 1)) r := rfl
    rw [hch, take_flat_succ]
    rcases hk with ⟨hk, hp, hl, hr'⟩ | ⟨hk, hp, s, hst, hr'⟩ | ⟨hk, hf', hc', hp, hr'⟩
    · rw [chunk_open hk (tag_text hp), decide_eq_true hk]
      cases hx : nextC r with
      | false =>
        rw [if_neg (c := false = true) (by decide), chunks_o hx]
        obtain ⟨τ, h1, h2, h3⟩ := hI.open h0 hf hk hp hl
        obtain ⟨υ, h4, h5⟩ := runs_to n r false false _ τ hn' h2 (fun e => by cases e) (fun e => by cases e) hr' j
        refine ⟨υ, h1.trans h4, fun hj => ?_⟩
        obtain ⟨e1, e2, e3⟩ := h5 (by simpa using hj)
        exact ⟨e1, e2, by rw [e3, h3]; simp⟩
      | true =>
        rw [if_pos rfl]
        cases r with
        | nil => cases hx
        | cons q r =>
          have hq2 : q.kind = 2 := of_decide_eq_true hx
          obtain ⟨_, hk2⟩ := rgt_cons hr'
          rcases hk2 with ⟨e, _⟩ | ⟨_, hq, s, hst, hr2⟩ | ⟨e, _⟩
          · rw [hq2] at e; exact absurd e (by decide)
          · injection hst with e1 e2
            subst e2
            obtain ⟨τ, h1, h2, h3⟩ := hI.both h0 hf hk hp hl hq2 hq e1
            have hch2 : chunks false true (q :: r) = [] :: chunks false false r := by
              show chunk false true q r :: chunks false (decide (q.kind = 1)) r = _
              rw [chunk_shut hq2 (tag_text hq), show decide (q.kind = 1) = false from decide_eq_false (by rw [hq2]; decide)]
            rw [hch2]
            match j with
            | 0 => exact ⟨τ, by rw [take_flat_zero, List.append_nil]; exact h1, fun hj => by simp at hj⟩
            | j + 1 =>
              rw [take_flat_succ, List.nil_append]
              obtain ⟨υ, h4, h5⟩ := runs_to n r false false st τ (by simp at hn'; omega) h2 (fun e => by cases e) (fun e => by cases e) hr2 j
              refine ⟨υ, h1.trans h4, fun hj => ?_⟩
              obtain ⟨e1, e2, e3⟩ := h5 (by simpa using hj)
              exact ⟨e1, e2, by rw [e3, h3]; simp⟩
          · rw [hq2] at e; exact absurd e (by decide)
    · have hf0 : f = false := by
        cases f with
        | false => rfl
        | true => rw [hf rfl] at hst; cases hst
      subst hf0
      rw [chunk_close hk (tag_text hp), show decide (p.kind = 1) = false from decide_eq_false (by rw [hk]; decide)]
      rw [hst] at hI
      obtain ⟨τ, h1, h2, h3⟩ := hI.close hk hp
      obtain ⟨υ, h4, h5⟩ := runs_to n r false false s τ hn' h2 (fun e => by cases e) (fun e => by cases e) hr' j
      refine ⟨υ, h1.trans h4, fun hj => ?_⟩
      obtain ⟨e1, e2, e3⟩ := h5 (by simpa using hj)
      exact ⟨e1, e2, by rw [e3, h3]; simp⟩
    · subst hf'; subst hc'
      have hst : st ≠ [] := h0.resolve_left (by decide)
      rw [chunk_chars hk, show decide (p.kind = 1) = false from decide_eq_false (by rw [hk]; decide)]
      obtain ⟨τ, h1, h2, h3⟩ := hI.chars hst hk hp
      obtain ⟨υ, h4, h5⟩ := runs_to n r false true st τ hn' h2 (fun e => by cases e) (fun _ => hst) hr' j
      refine ⟨υ, h1.trans h4, fun hj => ?_⟩
      obtain ⟨e1, e2, e3⟩ := h5 (by simpa using hj)
      exact ⟨e1, e2, by rw [e3, h3]; simp⟩

theorem inv_init : Inv true false [] (init []) := ⟨rfl, fun e he => (by cases he), fun e => absurd rfl e, fun e he => (by cases he), rfl, fun _ => rfl, fun _ => rfl, fun e => (by cases e)⟩
theorem prolog_tag {x : UInt8} {t : Row} (h : x ≠ 63) : prolog (60 :: x :: t) = some (60 :: x :: t) := by
  unfold prolog
  have e : xmlS.isPrefixOf (60 :: x :: t) = false := by
    rw [show xmlS.isPrefixOf (60 :: x :: t) = ((60 : UInt8) == 60 && ((63 : UInt8) == x && ([120, 109, 108] : Row).isPrefixOf t)) from rfl, beq_eq_false_iff_ne.2 (fun e => h e.symm)]
    simp
  rw [e, if_neg (by decide)]
/-- a document's text begins with an element -/
theorem prX_head {ps : List Pc} (h : right ps = true) : ∃ c t, prX ps = 60 :: c :: t ∧ ftB c = true := by
  cases ps with
  | nil => cases h
  | cons p r =>
    obtain ⟨_, hk⟩ := rgt_cons h
    rcases hk with ⟨hk, hp, _, _⟩ | ⟨_, _, s, hst, _⟩ | ⟨_, hf, _⟩
    · obtain ⟨c, t, ht, hc⟩ := nm_head p (tag_eq hk hp).2.2
      refine ⟨c, t ++ declS ++ (if nextC r = true then [47, 62] else [62]) ++ (chunks false (decide (p.kind = 1)) r).flatten, ?_, hc⟩
      show (chunk true false p r :: chunks false _ r).flatten = _
      rw [List.flatten_cons, chunk_open hk (tag_text hp), ht]
      simp
    · cases hst
    · cases hf
theorem go_pr {ps : List Pc} (h : right ps = true) : ∃ τ, go (init (prX ps)) = some τ ∧ fin τ = some ps := by
  obtain ⟨τ, h1, h2⟩ := runs_to ps.length ps true false [] (init []) (Nat.le_refl _) inv_init (fun _ => rfl) (fun e => by cases e) h (chunks true false ps).length
  rw [List.take_length] at h1
  have hlen : ps.length ≤ (chunks true false ps).length := by
    have : ∀ (ps : List Pc) (f o : Bool), (chunks f o ps).length = ps.length := fun ps => by
      induction ps with
      | nil => intro f o; rfl
      | cons p r ih => intro f o; show (chunks false _ r).length + 1 = _; rw [ih]; rfl
    rw [this]; exact Nat.le_refl _
  obtain ⟨e1, e2, e3⟩ := h2 hlen
  have := h1 []
  rw [List.append_nil] at this
  refine ⟨τ.at [], ?_, ?_⟩
  · show go ((init []).at (prX ps)) = _
    exact this.trans (go_nil rfl)
  · unfold fin
    rw [if_pos ⟨e2, e1⟩]
    show some τ.pcs = _
    rw [e3]; rfl
theorem doc_pr {ps : List Pc} (h : right ps = true) : docP (prX ps) = some ps := by
  obtain ⟨c, t, e, hc⟩ := prX_head h
  obtain ⟨τ, h1, h2⟩ := go_pr h
  unfold docP
  rw [e, prolog_tag (ft_ne hc).2.2, ← e, Option.bind_some, h1, Option.bind_some, h2]

/-! ### valid -/
theorem esc_no : ∀ c : UInt8, (60 : UInt8) ∉ esc c := fun c => Ch.byte_all (P := fun c => (60 : UInt8) ∉ esc c) (by decide +kernel) c
theorem escT_no (t : Row) : (60 : UInt8) ∉ escT t := fun h => by
  obtain ⟨c, _, hc⟩ := List.mem_flatMap.1 h
  exact esc_no c hc
theorem nx_no60 : nxB 60 = false := by decide
theorem nm_no {p : Pc} (h : nameB p.name = true) : (60 : UInt8) ∉ nm p := fun hm => by
  have h1 : (60 : UInt8) ∉ p.name := fun e => by have := nameB_all h 60 e; rw [nx_no60] at this; cases this
  unfold nm at hm
  split at hm
  · simp at hm; exact h1 hm
  · split at hm
    · simp at hm; exact h1 hm
    · exact h1 hm
theorem valid_one {x : UInt8} (h : x.toNat < 128) (hc : Ch.ctl x = false) : Ch.valid [x] = true :=
  Ch.byte_all (P := fun x => x.toNat < 128 → Ch.ctl x = false → Ch.valid [x] = true) (by decide +kernel) x h hc
theorem valid_ascii : ∀ (l : Row), (∀ x ∈ l, x.toNat < 128 ∧ Ch.ctl x = false) → Ch.valid l = true
  | [], _ => rfl
  | x :: l, h => by
    have h1 := h x (by simp)
    have := Ch.valid_join [x] l (valid_one h1.1 h1.2)
    rw [List.singleton_append] at this
    rw [this]
    exact valid_ascii l (fun y hy => h y (by simp [hy]))
theorem valid_both {a b : Row} (h : Ch.valid a = true) (k : Ch.valid b = true) : Ch.valid (a ++ b) = true := by rw [Ch.valid_join a b h, k]
theorem nx_ascii (c : UInt8) (h : nxB c = true) : c.toNat < 128 ∧ Ch.ctl c = false :=
  Ch.byte_all (P := fun c => nxB c = true → c.toNat < 128 ∧ Ch.ctl c = false) (by decide +kernel) c h
theorem valid_name {n : Row} (h : nameB n = true) : Ch.valid n = true := valid_ascii n fun x hx => nx_ascii x (nameB_all h x hx)
theorem valid_nm {p : Pc} (h : nameB p.name = true) : Ch.valid (nm p) = true := by
  unfold nm
  split
  · exact valid_both (a := [68, 58]) (by decide +kernel) (valid_name h)
  · split
    · exact valid_both (a := [67, 58]) (by decide +kernel) (valid_name h)
    · exact valid_name h
theorem esc_big (c : UInt8) (h : 128 ≤ c.toNat) : esc c = [c] :=
  Ch.byte_all (P := fun c => 128 ≤ c.toNat → esc c = [c]) (by decide +kernel) c h
theorem esc_valid (c : UInt8) (h : Ch.valid [c] = true) : Ch.valid (esc c) = true :=
  Ch.byte_all (P := fun c => Ch.valid [c] = true → Ch.valid (esc c) = true) (by decide +kernel) c h
theorem escT_append (a b : Row) : escT (a ++ b) = escT a ++ escT b := by simp [escT]
theorem escT_big : ∀ (l : Row), (∀ x ∈ l, 128 ≤ x.toNat) → escT l = l
  | [], _ => rfl
  | x :: l, h => by
    have e : escT (x :: l) = esc x ++ escT l := by simp [escT]
    rw [e, esc_big x (h x (by simp)), escT_big l (fun y hy => h y (by simp [hy]))]; rfl
end Go.Proofs.YtmmpojhjpghdlaaGreatDoor.Xm

/-
  PLAIN LAWS OF LAYER xml: a printed document is a valid text; a remark ahead of a tag changes nothing.
-/
set_option linter.unusedVariables false
namespace Go.Proofs.YtmmpojhjpghdlaaGreatDoor.Xm

theorem valid_esc : ∀ (n : Nat) (t : Row), t.length ≤ n → Ch.valid t = true → Ch.valid (escT t) = true
  | _, [], _, _ => rfl
  | 0, _ :: _, h, _ => by simp at h
  | n + 1, x :: l, hn, h => by
    have hne : x :: l ≠ [] := by simp
    have hs := Ch.valid_step (x :: l) hne
    rw [h] at hs
    split at hs
    · cases hs
    · rename_i h0
      have hk0 : (Ch.rune (x :: l)).2 ≠ 0 := fun e => h0 (.inl e)
      obtain ⟨h1, h2, _, h4⟩ := Ch.rune_tells hne hk0
      obtain ⟨k, hk⟩ : ∃ k, (Ch.rune (x :: l)).2 = k := ⟨_, rfl⟩
      rw [hk] at hs hk0 h1 h2 h4
      have ih := valid_esc n ((x :: l).drop k) (by rw [List.length_drop]; omega) hs.symm
      have hcut := (Ch.valid_cut (x :: l) h k h1)
      have hb : Ch.valid ((x :: l).take k) = true := by rw [hcut.1, ← hcut.2]; exact hs.symm
      have e : x :: l = (x :: l).take k ++ (x :: l).drop k := (List.take_append_drop _ _).symm
      rw [e, escT_append]
      refine valid_both ?_ ih
      rcases h4 with ⟨q, q'⟩ | ⟨q, q'⟩
      · have hk1 : k = 1 := by rw [q'] at hk; exact hk.symm
        rw [hk1] at hb ⊢
        have e2 : escT ((x :: l).take 1) = esc x := by simp [escT]
        rw [e2]
        exact esc_valid x (by simpa using hb)
      · rw [escT_big]
        · exact hb
        · intro y hy
          obtain ⟨i, hi, rfl⟩ := List.mem_iff_getElem.1 hy
          rw [List.length_take] at hi
          rw [List.getElem_take]
          match i, hi with
          | 0, _ => simp at q ⊢; omega
          | i + 1, hi =>
            have := h2 (i + 1) (by omega) (by omega)
            unfold Ch.cont at this
            rw [List.getD_eq_getElem?_getD, List.getElem?_eq_getElem (by omega)] at this
            exact this.1
/-- what is asked of a piece that is printed -/
def okP (p : Pc) : Prop := (p.kind = 1 ∨ p.kind = 2 → nameB p.name = true) ∧ Ch.valid p.text = true
theorem rgt_ok : ∀ (ps : List Pc) (f c : Bool) (st : List (Row × Int)), rgt f c st ps = true → ∀ p ∈ ps, okP p
  | [], _, _, _, _, p, hp => by cases hp
  | q :: r, f, c, st, h, p, hp => by
    obtain ⟨_, hk⟩ := rgt_cons h
    rcases hk with ⟨hk, ho, _, hr⟩ | ⟨hk, ho, s, _, hr⟩ | ⟨hk, _, _, ho, hr⟩
    · rcases List.mem_cons.1 hp with rfl | hp
      · exact ⟨fun _ => (tag_eq hk ho).2.2, by rw [tag_text ho]; rfl⟩
      · exact rgt_ok r _ _ _ hr p hp
    · rcases List.mem_cons.1 hp with rfl | hp
      · exact ⟨fun _ => (tag_eq hk ho).2.2, by rw [tag_text ho]; rfl⟩
      · exact rgt_ok r _ _ _ hr p hp
    · rcases List.mem_cons.1 hp with rfl | hp
      · refine ⟨fun e => ?_, ?_⟩
        · rw [hk] at e; rcases e with e | e <;> exact absurd e (by decide)
        · unfold okTxt at ho
          simp only [Bool.and_eq_true] at ho
          exact ho.2.1
      · exact rgt_ok r _ _ _ hr p hp
theorem chunk_valid (f o : Bool) {p : Pc} (r : List Pc) (h : okP p) : Ch.valid (chunk f o p r) = true := by
  have ht := valid_esc _ p.text (Nat.le_refl _) h.2
  have hd : Ch.valid declS = true := by decide +kernel
  unfold chunk
  by_cases h1 : p.kind = 1
  · rw [if_pos h1, if_neg (c := p.kind = 2 ∧ o = false) (fun e => by rw [h1] at e; exact absurd e.1 (by decide)), List.nil_append]
    have hn := valid_nm (h.1 (.inl h1))
    refine valid_both (valid_both (a := [60]) (by decide +kernel) (valid_both (valid_both hn ?_) ?_)) ht
    · split
      · exact hd
      · rfl
    · split <;> decide +kernel
  · rw [if_neg h1, List.nil_append]
    by_cases h2 : p.kind = 2 ∧ o = false
    · rw [if_pos h2]
      exact valid_both (valid_both (a := [60, 47]) (by decide +kernel) (valid_both (valid_nm (h.1 (.inr h2.1))) (by decide +kernel))) ht
    · rw [if_neg h2]; exact ht
theorem chunk_no (f o : Bool) {p : Pc} (r : List Pc) (h : okP p) : (60 : UInt8) ∉ (chunk f o p r).tail := by
  have ht := escT_no p.text
  have hd : (60 : UInt8) ∉ declS := by decide
  unfold chunk
  by_cases h1 : p.kind = 1
  · rw [if_pos h1, if_neg (c := p.kind = 2 ∧ o = false) (fun e => by rw [h1] at e; exact absurd e.1 (by decide)), List.nil_append]
    have hn := nm_no (h.1 (.inl h1))
    rw [List.cons_append, List.tail_cons]
    simp only [List.mem_append]
    rintro (((h | h) | h) | h)
    · exact hn h
    · split at h
      · exact hd h
      · cases h
    · split at h <;> revert h <;> decide
    · exact ht h
  · rw [if_neg h1, List.nil_append]
    by_cases h2 : p.kind = 2 ∧ o = false
    · rw [if_pos h2]
      have hn := nm_no (h.1 (.inr h2.1))
      simp only [List.cons_append, List.tail_cons, List.append_assoc, List.mem_cons, List.mem_append]
      rintro (h | h | h | h)
      · revert h; decide
      · exact hn h
      · revert h; decide
      · rcases h with h | h
        · cases h
        · exact ht h
    · rw [if_neg h2, List.nil_append]
      exact fun e => ht (List.mem_of_mem_tail e)
theorem chunks_all {Q : Row → Prop} (hQ : ∀ (f o : Bool) (p : Pc) (r : List Pc), okP p → Q (chunk f o p r)) : ∀ (ps : List Pc) (f o : Bool), (∀ p ∈ ps, okP p) → ∀ c ∈ chunks f o ps, Q c
  | [], _, _, _, c, hc => by cases hc
  | p :: r, f, o, h, c, hc => by
    rcases List.mem_cons.1 hc with rfl | hc
    · exact hQ f o p r (h p (by simp))
    · exact chunks_all hQ r _ _ (fun q hq => h q (by simp [hq])) c hc
theorem valid_flat : ∀ (C : List Row), (∀ c ∈ C, Ch.valid c = true) → Ch.valid C.flatten = true
  | [], _ => rfl
  | c :: C, h => by
    rw [List.flatten_cons]
    exact valid_both (h c (by simp)) (valid_flat C (fun d hd => h d (by simp [hd])))
theorem valid_pr {ps : List Pc} (h : right ps = true) : Ch.valid (prX ps) = true :=
  valid_flat _ (chunks_all (fun f o p r hp => chunk_valid f o r hp) ps true false (rgt_ok ps _ _ _ h))
/-- the marks stand at chunks' beginnings -/
theorem at_mark : ∀ (C : List Row), (∀ c ∈ C, (60 : UInt8) ∉ c.tail) → ∀ k, C.flatten[k]? = some 60 → ∃ j, C.flatten.take k = (C.take j).flatten
  | [], _, k, h => by simp at h
  | c :: C, hC, k, h => by
    rw [List.flatten_cons] at h ⊢
    by_cases hk : k < c.length
    · match k with
      | 0 => exact ⟨0, by simp⟩
      | k + 1 =>
        cases c with
        | nil => simp at hk
        | cons x t =>
          have hkt : k < t.length := by simpa using hk
          rw [List.cons_append, List.getElem?_cons_succ, List.getElem?_append_left hkt] at h
          exact absurd (List.mem_of_getElem? h) (hC (x :: t) (by simp))
    · rw [List.getElem?_append_right (by omega)] at h
      obtain ⟨j, hj⟩ := at_mark C (fun d hd => hC d (by simp [hd])) (k - c.length) h
      refine ⟨j + 1, ?_⟩
      rw [take_flat_succ, ← hj, List.take_append, List.take_of_length_le (by omega)]
def remarkT (t : Row) : Row := remarkS ++ t ++ [45, 45, 62]
/-- a remark ahead of a tag or at the end -/
theorem doc_remark {ps : List Pc} (h : right ps = true) (k : Nat) (hk : k = (prX ps).length ∨ (prX ps)[k]? = some 60) (t : Row) (h1 : ∀ i, t.getD i 0 = 45 → t.getD (i + 1) 0 = 45 → t.length ≤ i + 1) (h2 : t.getLast? ≠ some 45) :
    docP ((prX ps).take k ++ remarkT t ++ (prX ps).drop k) = some ps := by
  obtain ⟨c, u, e, hc⟩ := prX_head h
  have hj : ∃ j, (prX ps).take k = ((chunks true false ps).take j).flatten := by
    rcases hk with rfl | hk
    · exact ⟨(chunks true false ps).length, by rw [List.take_length, List.take_length]; rfl⟩
    · exact at_mark _ (chunks_all (fun f o p r hp => chunk_no f o r hp) ps true false (rgt_ok ps _ _ _ h)) k hk
  obtain ⟨j, hj⟩ := hj
  obtain ⟨τ, r1, _⟩ := runs_to ps.length ps true false [] (init []) (Nat.le_refl _) inv_init (fun _ => rfl) (fun e => by cases e) h j
  rw [← hj] at r1
  have r2 := runs_remark τ t h1 h2
  obtain ⟨υ, g1, g2⟩ := go_pr h
  have r3 : go (init ((prX ps).take k ++ remarkT t ++ (prX ps).drop k)) = go (init (prX ps)) := by
    show go ((init []).at ((prX ps).take k ++ remarkT t ++ (prX ps).drop k)) = go ((init []).at (prX ps))
    rw [List.append_assoc, r1]
    show go (τ.at (remarkS ++ t ++ [45, 45, 62] ++ (prX ps).drop k)) = _
    rw [r2, ← r1, List.take_append_drop]
  have hp : prolog ((prX ps).take k ++ remarkT t ++ (prX ps).drop k) = some ((prX ps).take k ++ remarkT t ++ (prX ps).drop k) := by
    have : ∃ x v, (prX ps).take k ++ remarkT t ++ (prX ps).drop k = 60 :: x :: v ∧ x ≠ 63 := by
      rw [e]
      match k with
      | 0 => exact ⟨33, _, rfl, by decide⟩
      | 1 => exact ⟨60, _, rfl, by decide⟩
      | k + 2 => exact ⟨c, _, rfl, (ft_ne hc).2.2⟩
    obtain ⟨x, v, q, hx⟩ := this
    rw [q, prolog_tag hx]
  unfold docP
  rw [hp, Option.bind_some, r3, g1, Option.bind_some, g2]
/-- which text it is -/
theorem valid_remark {ps : List Pc} (h : right ps = true) (k : Nat) (hk : k = (prX ps).length ∨ (prX ps)[k]? = some 60) (t : Row) : Ch.valid ((prX ps).take k ++ remarkT t ++ (prX ps).drop k) = Ch.valid t := by
  have hv := valid_pr h
  have hkl : k ≤ (prX ps).length := by
    rcases hk with rfl | hk
    · exact Nat.le_refl _
    · obtain ⟨h1, _⟩ := List.getElem?_eq_some_iff.1 hk; omega
  have hb : Ch.between (prX ps) k = true := by
    unfold Ch.between
    refine decide_eq_true ?_
    rcases hk with rfl | hk
    · exact .inl rfl
    · right; left; rw [List.getD_eq_getElem?_getD, hk]; decide
  obtain ⟨c1, c2⟩ := Ch.valid_cut _ hv k hkl
  rw [hb] at c1 c2
  obtain ⟨A, hA⟩ : ∃ A, (prX ps).take k = A := ⟨_, rfl⟩
  obtain ⟨B, hB⟩ : ∃ B, (prX ps).drop k = B := ⟨_, rfl⟩
  rw [hA] at c1 ⊢
  rw [hB] at c2 ⊢
  have e : A ++ remarkT t ++ B = (A ++ remarkS) ++ (t ++ (([45, 45, 62] : Row) ++ B)) := by simp [remarkT]
  have hz : Ch.valid (([45, 45, 62] : Row) ++ B) = true := valid_both (by decide +kernel) c2
  rw [e, Ch.valid_join _ _ (valid_both c1 (by decide +kernel))]
  cases hw : Ch.valid t with
  | true => exact valid_both hw hz
  | false =>
    cases hx : Ch.valid (t ++ (([45, 45, 62] : Row) ++ B)) with
    | false => rfl
    | true =>
      have hcut := (Ch.valid_cut _ hx t.length (by simp)).1
      rw [List.take_left] at hcut
      rw [hw] at hcut
      unfold Ch.between at hcut
      have := of_decide_eq_false hcut.symm
      refine absurd ?_ this
      right; left
      rw [List.getD_eq_getElem?_getD, List.getElem?_append_right (Nat.le_refl _), Nat.sub_self]
      show (45 : UInt8).toNat < 128
      decide
end Go.Proofs.YtmmpojhjpghdlaaGreatDoor.Xm
