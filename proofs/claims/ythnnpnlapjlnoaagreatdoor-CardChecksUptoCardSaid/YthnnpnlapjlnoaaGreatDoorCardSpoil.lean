/-
  HOW MEMORY STANDS WHILE LINES OF THE CALL's OWN ARE SPOILT: their parameters' names and values are overwritten.
-/
import Derived.Test.YthnnpnlapjlnoaaGreatDoorMgC
set_option linter.unusedVariables false
namespace Go.Proofs.YthnnpnlapjlnoaaGreatDoor.Ca
open Go.Lib Go.RowKit
open Li (LD PD sv POwn Own pcells)

/-- a row of strings of the call's own, whatever they are -/
def StrN (B : Nat) (u : Value) (n : Nat) (w : World) : Prop :=
  (u = .slice none 0 0 ∧ n = 0) ∨ ∃ (g cap : Nat) (cur : Array Value), u = .slice (some ⟨g, 0, none⟩) n cap ∧ B ≤ g ∧ w.heap[g]? = some (.cells cur 9 (0, 0)) ∧ n ≤ cap ∧ cap ≤ maxLen ∧ cur.size = cap
theorem StrN.of {B : Nat} {u : Value} {ls : List Row} {w : World} (h : Own B u ls w) : StrN B u ls.length w := by
  rcases h.2 with ⟨h1, h2⟩ | ⟨g, cap, cur, e1, e2, e3, e4, e5, e6, _⟩
  · exact .inl ⟨h1, h2⟩
  · exact .inr ⟨g, cap, cur, e1, e2, e3, e4, e5, by omega⟩
theorem StrN.store {B n g o : Nat} {u : Value} {w : World} (h : StrN B u n w) (x : Value) : StrN B u n (w.setCell ⟨g, o, none⟩ x) := by
  rcases h with h | ⟨g2, cap, cur, e1, e2, e3, e4, e5, e6⟩
  · exact .inl h
  · by_cases hg : g2 = g
    · subst hg
      refine .inr ⟨g2, cap, cur.setIfInBounds o x, e1, e2, ?_, e4, e5, by simpa using e6⟩
      simp [World.setCell, Array.getElem?_modify, e3]
    · refine .inr ⟨g2, cap, cur, e1, e2, ?_, e4, e5, e6⟩
      rw [Below.heap_setCell _ _ _ _ hg]; exact e3
/-- a row of parameters of the call's own, whatever their names and values are -/
def PrmN (B : Nat) (u : Value) (ns : List Nat) (w : World) : Prop :=
  (u = .slice none 0 0 ∧ ns = []) ∨ ∃ (g cap : Nat) (cur : Array Value), u = .slice (some ⟨g, 0, none⟩) ns.length cap ∧ B ≤ g ∧ w.heap[g]? = some (.cells cur 47 (0, 0)) ∧ ns.length ≤ cap ∧ cap ≤ maxLen ∧
    ∀ (k n : Nat), ns[k]? = some n → (∃ x, cur[k * 2]? = some (.string x)) ∧ ∃ y, cur[k * 2 + 1]? = some y ∧ StrN B y n w
theorem PrmN.of {B : Nat} {u : Value} {ps : List PD} {w : World} (h : POwn B u ps w) : PrmN B u (ps.map fun p => p.vals.length) w := by
  obtain ⟨vs, hl, ⟨h4, h5 | ⟨g, cap, cur, e1, e2, e3, e4, e5, e6, e7⟩⟩, hv⟩ := h
  · obtain rfl : ps = [] := List.eq_nil_of_length_eq_zero h5.2
    exact .inl ⟨h5.1, rfl⟩
  · refine .inr ⟨g, cap, cur, by rw [List.length_map]; exact e1, e2, e3, by rw [List.length_map]; exact e4, e5, fun k n hk => ?_⟩
    rw [List.getElem?_map] at hk
    obtain ⟨p, hp, rfl⟩ := Option.map_eq_some_iff.1 hk
    have hlt := (List.getElem?_eq_some_iff.1 hp).1
    have hy : vs[k]? = some (vs[k]'(by omega)) := List.getElem?_eq_getElem (by omega)
    obtain ⟨c0, c1⟩ := Li.pcells_at ps vs k p _ hl hp hy
    rw [← e7, List.getElem?_take, if_pos (by omega), Array.getElem?_toList] at c0 c1
    exact ⟨⟨_, c0⟩, _, c1, StrN.of (hv k p _ hp hy)⟩
/-- a name stored into such a row -/
theorem PrmN.name {B g k : Nat} {u : Value} {ns : List Nat} {w : World} (h : PrmN B u ns w) (x : ByteArray) {cs : Array Value} (hg : w.heap[g]? = some (.cells cs 47 (0, 0))) : PrmN B u ns (w.setCell ⟨g, k * 2, none⟩ (.string x)) := by
  rcases h with h | ⟨g2, cap, cur, e1, e2, e3, e4, e5, e6⟩
  · exact .inl h
  · by_cases hgg : g2 = g
    · subst hgg
      refine .inr ⟨g2, cap, cur.setIfInBounds (k * 2) (.string x), e1, e2, ?_, e4, e5, fun j n hj => ?_⟩
      · simp [World.setCell, Array.getElem?_modify, e3]
      · obtain ⟨⟨y, hy⟩, z, hz, hs⟩ := e6 j n hj
        refine ⟨?_, z, ?_, hs.store _⟩
        · by_cases hjk : k = j
          · subst hjk
            exact ⟨x, by rw [Array.getElem?_setIfInBounds_self_of_lt (Array.getElem?_eq_some_iff.1 hy).1]⟩
          · exact ⟨y, by rw [Array.getElem?_setIfInBounds_ne (by omega)]; exact hy⟩
        · rw [Array.getElem?_setIfInBounds_ne (by omega)]; exact hz
    · refine .inr ⟨g2, cap, cur, e1, e2, ?_, e4, e5, fun j n hj => ?_⟩
      · rw [Below.heap_setCell _ _ _ _ hgg]; exact e3
      · obtain ⟨hx, z, hz, hs⟩ := e6 j n hj
        exact ⟨hx, z, hz, hs.store _⟩
/-- a string stored into another row -/
theorem PrmN.far {B g o : Nat} {u : Value} {ns : List Nat} {w : World} (h : PrmN B u ns w) (x : Value) {cs : Array Value} (hg : w.heap[g]? = some (.cells cs 9 (0, 0))) : PrmN B u ns (w.setCell ⟨g, o, none⟩ x) := by
  rcases h with h | ⟨g2, cap, cur, e1, e2, e3, e4, e5, e6⟩
  · exact .inl h
  · refine .inr ⟨g2, cap, cur, e1, e2, ?_, e4, e5, fun j n hj => ?_⟩
    · rw [Below.heap_setCell _ _ _ _ (fun e => ?_)]
      · exact e3
      · have e : g2 = g := e
        subst e
        rw [hg] at e3
        injection e3 with e3
        injection e3 with _ ht
        exact absurd ht (by decide)
    · obtain ⟨hx, z, hz, hs⟩ := e6 j n hj
      exact ⟨hx, z, hz, hs.store _⟩
/-- the lengths of a line's values -/
def lens (L : LD) : List Nat := L.params.map fun p => p.vals.length
/-- how memory stands while lines that lie ahead of 'wf's end are spoilt -/
structure SpoL (wf : World) (v : Value) (Ls : List LD) (us : List Value) (w : World) : Prop where
  len : Ls.length = us.length
  below : Below wf.heap.size wf w
  row : w.ownsRow wf.heap.size 41 4 v Ls.length (lcells Ls us)
  prms : ∀ (j : Nat) (L : LD) (u : Value), Ls[j]? = some L → us[j]? = some u → PrmN wf.heap.size u (lens L) w
theorem SpoL.of {wf w : World} {v : Value} {Ls : List LD} (h : LsOwn wf.heap.size v Ls w) (hb : Below wf.heap.size wf w) : ∃ us, SpoL wf v Ls us w := by
  obtain ⟨us, h1, h2, h3⟩ := h
  exact ⟨us, h1, hb, h2, fun j L u hL hu => PrmN.of (h3 j L u hL hu)⟩
theorem SpoL.kept {wf w w' : World} {v : Value} {Ls : List LD} {us : List Value} (h : SpoL wf v Ls us w) (hb : Below w.heap.size w w') : SpoL wf v Ls us w' := by
  refine ⟨h.len, belowThen h.below hb, Li.ownsRow_kept h.row hb, fun j L u hL hu => ?_⟩
  have hs : ∀ y n, StrN wf.heap.size y n w → StrN wf.heap.size y n w' := fun y n q => by
    rcases q with q | ⟨g, cap, cur, e1, e2, e3, e4⟩
    · exact .inl q
    · exact .inr ⟨g, cap, cur, e1, e2, Li.blk_below hb e3, e4⟩
  rcases h.prms j L u hL hu with q | ⟨g, cap, cur, e1, e2, e3, e4, e5, e6⟩
  · exact .inl q
  · exact .inr ⟨g, cap, cur, e1, e2, Li.blk_below hb e3, e4, e5, fun k n hk => by
      obtain ⟨q1, y, q2, q3⟩ := e6 k n hk
      exact ⟨q1, y, q2, hs _ _ q3⟩⟩
/-- one line's parameters -/
theorem SpoL.line {wf w : World} {v : Value} {Ls : List LD} {us : List Value} (h : SpoL wf v Ls us w) {j : Nat} {L : LD} (hL : Ls[j]? = some L) :
    ∃ g c u, v = .slice (some ⟨g, 0, none⟩) Ls.length c ∧ w.cell? ⟨g, j * 4 + 2, none⟩ = some u ∧ us[j]? = some u ∧ PrmN wf.heap.size u (lens L) w := by
  have hlt := (List.getElem?_eq_some_iff.1 hL).1
  have hlu := h.len
  have hu : us[j]? = some (us[j]'(by omega)) := List.getElem?_eq_getElem (by omega)
  obtain ⟨h4, h5 | ⟨g, cap, cur, e1, e2, e3, e4, e5, e6, e7⟩⟩ := h.row
  · omega
  · refine ⟨g, cap, _, e1, ?_, hu, h.prms j L _ hL hu⟩
    have c2 := (lcells_at Ls us j L _ h.len hL hu).2.2.1
    rw [← e7, List.getElem?_take, if_pos (by omega)] at c2
    rw [Lib.cell_of_heap e3, ← Array.getElem?_toList]; exact c2
/-- one parameter of such a row -/
theorem PrmN.at {B : Nat} {u : Value} {ns : List Nat} {w : World} (h : PrmN B u ns w) {k n : Nat} (hk : ns[k]? = some n) :
    ∃ (g c : Nat) (cs : Array Value) (x : ByteArray) (y : Value), u = .slice (some ⟨g, 0, none⟩) ns.length c ∧ B ≤ g ∧ w.heap[g]? = some (.cells cs 47 (0, 0)) ∧ w.cell? ⟨g, k * 2, none⟩ = some (.string x) ∧ w.frozen? ⟨g, k * 2, none⟩ = false ∧ w.cell? ⟨g, k * 2 + 1, none⟩ = some y ∧ StrN B y n w := by
  have hlt := (List.getElem?_eq_some_iff.1 hk).1
  rcases h with ⟨_, h⟩ | ⟨g, cap, cur, e1, e2, e3, e4, e5, e6⟩
  · subst h; simp at hlt
  · obtain ⟨⟨x, hx⟩, y, hy, hs⟩ := e6 k n hk
    exact ⟨g, cap, cur, x, y, e1, e2, e3, by rw [Lib.cell_of_heap e3]; exact hx, Lib.frozen_of_heap e3 _, by rw [Lib.cell_of_heap e3]; exact hy, hs⟩
/-- one string of such a row -/
theorem StrN.at {B : Nat} {u : Value} {n : Nat} {w : World} (h : StrN B u n w) {k : Nat} (hk : k < n) :
    ∃ (g c : Nat) (cs : Array Value) (y : Value), u = .slice (some ⟨g, 0, none⟩) n c ∧ B ≤ g ∧ w.heap[g]? = some (.cells cs 9 (0, 0)) ∧ w.cell? ⟨g, k, none⟩ = some y ∧ w.frozen? ⟨g, k, none⟩ = false := by
  rcases h with ⟨_, h⟩ | ⟨g, cap, cur, e1, e2, e3, e4, e5, e6⟩
  · omega
  · exact ⟨g, cap, cur, cur[k]'(by omega), e1, e2, e3, by rw [Lib.cell_of_heap e3]; exact Array.getElem?_eq_getElem (by omega), Lib.frozen_of_heap e3 _⟩
theorem PrmN.form {B : Nat} {u : Value} {ns : List Nat} {w : World} (h : PrmN B u ns w) : ∃ A c, u = .slice A ns.length c ∧ ns.length ≤ maxLen := by
  rcases h with ⟨h1, h2⟩ | ⟨g, cap, cur, e1, e2, e3, e4, e5, e6⟩
  · exact ⟨none, 0, by rw [h1, h2]; rfl, by rw [h2]; simp⟩
  · exact ⟨_, cap, e1, by omega⟩
theorem StrN.form {B : Nat} {u : Value} {n : Nat} {w : World} (h : StrN B u n w) : ∃ A c, u = .slice A n c ∧ n ≤ maxLen := by
  rcases h with ⟨h1, h2⟩ | ⟨g, cap, cur, e1, e2, e3, e4, e5, e6⟩
  · exact ⟨none, 0, by rw [h1, h2], by omega⟩
  · exact ⟨_, cap, e1, by omega⟩
/-- a parameter's name is overwritten -/
theorem SpoL.name {wf w : World} {v : Value} {Ls : List LD} {us : List Value} (h : SpoL wf v Ls us w) {g : Nat} {cs : Array Value} (hg : w.heap[g]? = some (.cells cs 47 (0, 0))) (hB : wf.heap.size ≤ g) (k : Nat) (x : ByteArray) : SpoL wf v Ls us (w.setCell ⟨g, k * 2, none⟩ (.string x)) :=
  ⟨h.len, h.below.setCell (p := ⟨g, k * 2, none⟩) hB _, Li.rowOther h.row hg linePrm_ne, fun j L u hL hu => (h.prms j L u hL hu).name x hg⟩
/-- a value is overwritten -/
theorem SpoL.value {wf w : World} {v : Value} {Ls : List LD} {us : List Value} (h : SpoL wf v Ls us w) {g : Nat} {cs : Array Value} (hg : w.heap[g]? = some (.cells cs 9 (0, 0))) (hB : wf.heap.size ≤ g) (k : Nat) (x : Value) : SpoL wf v Ls us (w.setCell ⟨g, k, none⟩ x) :=
  ⟨h.len, h.below.setCell (p := ⟨g, k, none⟩) hB _, Li.rowOther h.row hg lineStr_ne, fun j L u hL hu => (h.prms j L u hL hu).far x hg⟩
end Go.Proofs.YthnnpnlapjlnoaaGreatDoor.Ca
