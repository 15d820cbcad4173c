/-
  HOW LINES LIE IN MEMORY: strings and parameters in rows of the call's own ('Own', 'POwn', 'LOwn'), and wherever they read ('StrsAt', 'PrmsAt', 'LineAt').
-/
import Derived.Test.YthkcjfoihieooaaDoorLinePlain
import Derived.Test.YthkcjfoihieooaaDoorBuild
import Derived.Below
import Derived.Lib.Hide
import Derived.Lib.IndexLaws
import Derived.KernelRfl
import Derived.OwnWalk
import Derived.WalkKit
set_option linter.unusedVariables false
namespace Go.Proofs.YthkcjfoihieooaaDoor.Li
open Go.Lib Go.RowKit

def sv (l : Row) : Value := .string ⟨l.toArray⟩
theorem sv_data (s : ByteArray) : sv s.data.toList = .string s := by unfold sv; rw [Lib.mk_data]
/-- a slice of the call's own that reads as these strings -/
def Own (B : Nat) (v : Value) (ls : List Row) (w : World) : Prop := w.ownsRow B 9 1 v ls.length (ls.map sv)
theorem Own.nil (B : Nat) (w : World) : Own B (.slice none 0 0) [] w := World.ownsRow_nil w B _ 1
theorem ownsRow_kept {w w' : World} {B : Nat} {e : TypeId} {size : Nat} {v : Value} {n : Nat} {xs : List Value} (h : w.ownsRow B e size v n xs) (hb : Below w.heap.size w w') : w'.ownsRow B e size v n xs := by
  refine ⟨h.1, ?_⟩
  rcases h.2 with h | ⟨g, cap, cur, e1, e2, e3, e4⟩
  · exact .inl h
  · exact .inr ⟨g, cap, cur, e1, e2, by rw [hb.block g (Array.getElem?_eq_some_iff.1 e3).1]; exact e3, e4⟩
theorem ownsRow_less {w : World} {B B' : Nat} {e : TypeId} {size : Nat} {v : Value} {n : Nat} {xs : List Value} (h : w.ownsRow B e size v n xs) (hb : B' ≤ B) : w.ownsRow B' e size v n xs := by
  refine ⟨h.1, ?_⟩
  rcases h.2 with h | ⟨g, cap, cur, e1, e2, e3, e4⟩
  · exact .inl h
  · exact .inr ⟨g, cap, cur, e1, Nat.le_trans hb e2, e3, e4⟩
/-- a row of another element type is left where a row is written -/
theorem ownsRow_beside {w w' : World} {B B' : Nat} {e e' : TypeId} {size size' : Nat} {v v' : Value} {n n' : Nat} {xs xs' : List Value} (h : w.ownsRow B e size v n xs) (k : w.ownsRow B' e' size' v' n' xs') (hne : e ≠ e') (hg : w.grownBy w' v'.ownBlock) : w'.ownsRow B e size v n xs := by
  refine ⟨h.1, ?_⟩
  rcases h.2 with h | ⟨g, cap, cur, e1, e2, e3, e4⟩
  · exact .inl h
  · refine .inr ⟨g, cap, cur, e1, e2, ?_, e4⟩
    rw [hg.block g (Array.getElem?_eq_some_iff.1 e3).1 ?_]
    · exact e3
    · intro hk
      rcases k.2 with k | ⟨g', cap', cur', f1, f2, f3, f4⟩
      · rw [k.1] at hk; cases hk
      · rw [f1] at hk
        obtain rfl : g = g' := by simpa [Value.ownBlock] using hk
        rw [e3] at f3
        have := Option.some.inj f3
        injection this with _ ht
        exact hne ht
theorem Own.kept {w w' : World} {B : Nat} {v : Value} {ls : List Row} (h : Own B v ls w) (hb : Below w.heap.size w w') : Own B v ls w' := ownsRow_kept h hb
theorem Own.less {w : World} {B B' : Nat} {v : Value} {ls : List Row} (h : Own B v ls w) (hb : B' ≤ B) : Own B' v ls w := ownsRow_less h hb
theorem infoStr : (Tryd.prog.info? 9).map (fun i => (i.zero, i.size, i.bytes)) = some (some (.string ⟨#[]⟩), 1, 16) := by kernel_rfl
theorem infoPrm : (Tryd.prog.info? 40).map (fun i => (i.zero, i.size, i.bytes)) = some (some (.agg #[.string ⟨#[]⟩, .slice none 0 0]), 2, 40) := by kernel_rfl
theorem strPrm_ne : (9 : TypeId) ≠ 40 := by decide

/-! ### parameters of the call's own -/
def pcells : List PD → List Value → List Value
  | p :: ps, v :: vs => sv p.name :: v :: pcells ps vs
  | _, _ => []
theorem pcells_len : ∀ (ps : List PD) (vs : List Value), ps.length = vs.length → (pcells ps vs).length = ps.length * 2
  | [], [], _ => rfl
  | p :: ps, v :: vs, h => by
    have := pcells_len ps vs (by simpa using h)
    simp only [pcells, List.length_cons]; omega
  | [], _ :: _, h => by simp at h
  | _ :: _, [], h => by simp at h
theorem pcells_snoc : ∀ (ps : List PD) (vs : List Value) (p : PD) (v : Value), ps.length = vs.length → pcells (ps ++ [p]) (vs ++ [v]) = pcells ps vs ++ [sv p.name, v]
  | [], [], _, _, _ => rfl
  | q :: ps, u :: vs, p, v, h => by
    have := pcells_snoc ps vs p v (by simpa using h)
    simp only [List.cons_append, pcells, this]
  | [], _ :: _, _, _, h => by simp at h
  | _ :: _, [], _, _, h => by simp at h
theorem pcells_at : ∀ (ps : List PD) (vs : List Value) (j : Nat) (p : PD) (v : Value), ps.length = vs.length → ps[j]? = some p → vs[j]? = some v → (pcells ps vs)[j * 2]? = some (sv p.name) ∧ (pcells ps vs)[j * 2 + 1]? = some v
  | q :: ps, u :: vs, 0, p, v, h, h1, h2 => by
    simp at h1 h2; subst h1; subst h2
    exact ⟨rfl, rfl⟩
  | q :: ps, u :: vs, j + 1, p, v, h, h1, h2 => by
    have := pcells_at ps vs j p v (by simpa using h) (by simpa using h1) (by simpa using h2)
    rw [show (j + 1) * 2 = j * 2 + 1 + 1 by omega]
    simpa [pcells] using this
  | [], [], j, p, v, _, h1, _ => by simp at h1
  | [], _ :: _, _, _, _, h, _, _ => by simp at h
  | _ :: _, [], _, _, _, h, _, _ => by simp at h
theorem pcells_one : ∀ (ps : List PD) (vs : List Value), (∀ v ∈ vs, v.oneCell' = true) → ∀ u ∈ pcells ps vs, u.oneCell' = true
  | p :: ps, v :: vs, h, u, hu => by
    simp only [pcells, List.mem_cons] at hu
    rcases hu with rfl | rfl | hu
    · rfl
    · exact h u (by simp)
    · exact pcells_one ps vs (fun x hx => h x (by simp [hx])) u hu
  | [], _, _, u, hu => by simp [pcells] at hu
  | _ :: _, [], _, u, hu => by simp [pcells] at hu
/-- a slice of the call's own that reads as these parameters, whose values lie in rows of the call's own -/
def POwn (B : Nat) (v : Value) (ps : List PD) (w : World) : Prop :=
  ∃ vs : List Value, ps.length = vs.length ∧ w.ownsRow B 40 2 v ps.length (pcells ps vs) ∧ ∀ (j : Nat) (p : PD) (u : Value), ps[j]? = some p → vs[j]? = some u → Own B u p.vals w
theorem POwn.nil (B : Nat) (w : World) : POwn B (.slice none 0 0) [] w := ⟨[], rfl, World.ownsRow_nil w B _ 2, fun j p u h => by simp at h⟩
theorem POwn.kept {w w' : World} {B : Nat} {v : Value} {ps : List PD} (h : POwn B v ps w) (hb : Below w.heap.size w w') : POwn B v ps w' := by
  obtain ⟨vs, h1, h2, h3⟩ := h
  exact ⟨vs, h1, ownsRow_kept h2 hb, fun j p u hp hu => (h3 j p u hp hu).kept hb⟩
theorem POwn.less {w : World} {B B' : Nat} {v : Value} {ps : List PD} (h : POwn B v ps w) (hb : B' ≤ B) : POwn B' v ps w := by
  obtain ⟨vs, h1, h2, h3⟩ := h
  exact ⟨vs, h1, ownsRow_less h2 hb, fun j p u hp hu => (h3 j p u hp hu).less hb⟩

/-! ### wherever they read -/
def StrsAt (w : World) (v : Value) (ls : List Row) : Prop :=
  ∃ (A : Option Addr) (b off c : Nat), v = .slice A ls.length c ∧ ls.length ≤ c ∧ c ≤ maxLen ∧ (0 < ls.length → A = some ⟨b, off, none⟩ ∧ b < w.heap.size) ∧ ∀ j l, ls[j]? = some l → w.cell? ⟨b, off + j, none⟩ = some (sv l)
theorem StrsAt.kept {w w' : World} {v : Value} {ls : List Row} (h : StrsAt w v ls) (hb : Below w.heap.size w w') : StrsAt w' v ls := by
  obtain ⟨A, b, off, c, h1, h2, h3, h4, h5⟩ := h
  refine ⟨A, b, off, c, h1, h2, h3, fun hl => ⟨(h4 hl).1, Nat.lt_of_lt_of_le (h4 hl).2 hb.size⟩, fun j l hj => ?_⟩
  have hlt := (h4 (by have := (List.getElem?_eq_some_iff.1 hj).1; omega)).2
  rw [hb.cell (p := ⟨b, off + j, none⟩) hlt]
  exact h5 j l hj
theorem Own.at {B : Nat} {v : Value} {ls : List Row} {w : World} (h : Own B v ls w) : StrsAt w v ls := by
  obtain ⟨h1, h2 | ⟨g, cap, cur, e1, e2, e3, e4, e5, e6, e7⟩⟩ := h
  · obtain rfl : ls = [] := List.eq_nil_of_length_eq_zero h2.2
    exact ⟨none, 0, 0, 0, h2.1, by simp, by unfold maxLen; omega, fun h => absurd h (by simp), fun j l hj => by simp at hj⟩
  · refine ⟨_, g, 0, cap, e1, e4, e5, fun _ => ⟨rfl, (Array.getElem?_eq_some_iff.1 e3).1⟩, fun j l hj => ?_⟩
    have hlt := (List.getElem?_eq_some_iff.1 hj).1
    rw [Lib.cell_of_heap e3, Nat.zero_add]
    have : (cur.toList.take (ls.length * 1))[j]? = (ls.map sv)[j]? := by rw [e7]
    rw [List.getElem?_take, if_pos (by omega), List.getElem?_map, hj] at this
    rw [← Array.getElem?_toList, this]; rfl
def PrmsAt (w : World) (v : Value) (ps : List PD) : Prop :=
  ∃ (A : Option Addr) (b off c : Nat), v = .slice A ps.length c ∧ ps.length ≤ c ∧ c ≤ maxLen ∧ (0 < ps.length → A = some ⟨b, off, none⟩ ∧ b < w.heap.size) ∧
    ∀ (j : Nat) (p : PD), ps[j]? = some p → w.cell? ⟨b, off + j * 2, none⟩ = some (sv p.name) ∧ ∃ u, w.cell? ⟨b, off + j * 2 + 1, none⟩ = some u ∧ StrsAt w u p.vals
theorem PrmsAt.kept {w w' : World} {v : Value} {ps : List PD} (h : PrmsAt w v ps) (hb : Below w.heap.size w w') : PrmsAt w' v ps := by
  obtain ⟨A, b, off, c, h1, h2, h3, h4, h5⟩ := h
  refine ⟨A, b, off, c, h1, h2, h3, fun hl => ⟨(h4 hl).1, Nat.lt_of_lt_of_le (h4 hl).2 hb.size⟩, fun j p hj => ?_⟩
  have hlt := (h4 (by have := (List.getElem?_eq_some_iff.1 hj).1; omega)).2
  obtain ⟨g1, u, g2, g3⟩ := h5 j p hj
  rw [hb.cell (p := ⟨b, off + j * 2, none⟩) hlt, hb.cell (p := ⟨b, off + j * 2 + 1, none⟩) hlt]
  exact ⟨g1, u, g2, g3.kept hb⟩
theorem POwn.at {B : Nat} {v : Value} {ps : List PD} {w : World} (h : POwn B v ps w) : PrmsAt w v ps := by
  obtain ⟨vs, hl, ⟨h1, h2 | ⟨g, cap, cur, e1, e2, e3, e4, e5, e6, e7⟩⟩, hv⟩ := h
  · obtain rfl : ps = [] := List.eq_nil_of_length_eq_zero h2.2
    exact ⟨none, 0, 0, 0, h2.1, by simp, by unfold maxLen; omega, fun h => absurd h (by simp), fun j l hj => by simp at hj⟩
  · refine ⟨_, g, 0, cap, e1, e4, e5, fun _ => ⟨rfl, (Array.getElem?_eq_some_iff.1 e3).1⟩, fun j p hj => ?_⟩
    have hlt := (List.getElem?_eq_some_iff.1 hj).1
    have hu : vs[j]? = some (vs[j]'(by omega)) := List.getElem?_eq_getElem (by omega)
    obtain ⟨c1, c2⟩ := pcells_at ps vs j p _ hl hj hu
    have key : ∀ i x, i < ps.length * 2 → (pcells ps vs)[i]? = some x → w.cell? ⟨g, 0 + i, none⟩ = some x := fun i x hi hx => by
      rw [Lib.cell_of_heap e3, Nat.zero_add]
      have : (cur.toList.take (ps.length * 2))[i]? = (pcells ps vs)[i]? := by rw [e7]
      rw [List.getElem?_take, if_pos hi, hx] at this
      rw [← Array.getElem?_toList, this]
    refine ⟨key _ _ (by omega) c1, _, ?_, (hv j p _ hj hu).at⟩
    have := key (j * 2 + 1) _ (by omega) c2
    rwa [← Nat.add_assoc] at this
/-- a line by value -/
def LineAt (w : World) (v : Value) (L : LD) : Prop := ∃ pv, v = .agg #[sv L.group, sv L.name, pv, sv L.value] ∧ PrmsAt w pv L.params
theorem LineAt.kept {w w' : World} {v : Value} {L : LD} (h : LineAt w v L) (hb : Below w.heap.size w w') : LineAt w' v L := by
  obtain ⟨pv, h1, h2⟩ := h
  exact ⟨pv, h1, h2.kept hb⟩
def LOwn (B : Nat) (v : Value) (L : LD) (w : World) : Prop := ∃ pv, v = .agg #[sv L.group, sv L.name, pv, sv L.value] ∧ POwn B pv L.params w
theorem LOwn.at {B : Nat} {v : Value} {L : LD} {w : World} (h : LOwn B v L w) : LineAt w v L := by
  obtain ⟨pv, h1, h2⟩ := h
  exact ⟨pv, h1, h2.at⟩
theorem LOwn.kept {w w' : World} {B : Nat} {v : Value} {L : LD} (h : LOwn B v L w) (hb : Below w.heap.size w w') : LOwn B v L w' := by
  obtain ⟨pv, h1, h2⟩ := h
  exact ⟨pv, h1, h2.kept hb⟩
theorem LOwn.less {w : World} {B B' : Nat} {v : Value} {L : LD} (h : LOwn B v L w) (hb : B' ≤ B) : LOwn B' v L w := by
  obtain ⟨pv, h1, h2⟩ := h
  exact ⟨pv, h1, h2.less hb⟩
end Go.Proofs.YthkcjfoihieooaaDoor.Li
