/-
  APPEND OF ONE LINE ONTO A ROW OF LINES OF THE CALL's OWN, at 'Oper.wp' (for RegInv).
-/
import Derived.Test.YthnnpnlapjlnoaaGreatDoorMgC
import Derived.Deep.AppendLies
import Derived.Test.YthnnpnlapjlnoaaGreatDoorRegRow
set_option linter.unusedVariables false
namespace Go.Proofs.YthnnpnlapjlnoaaGreatDoor.Ca
open Go.Lib Go.RowKit
open Li (LD PD sv POwn LOwn LineAt PrmsAt)

theorem line_op {w : World} {o : Oper} {a : Act} {K : Act → World → Prop} {Q : Exit → Act → World → Prop} (L : LD) (a1 a2 a4 : ByteArray) (pv : Value) (h1 : sv L.group = .string a1) (h2 : sv L.name = .string a2) (h4 : sv L.value = .string a4) (hpv : ∃ ao n c, pv = .slice ao n c)
    (hgd : o.guard = none) {ds : Option Nat} (hds : o.dst = ds) (s xo : Operand) (ho : o.op = .call { callee := .builtin .append, args := #[s, xo], argTypes := #[23, 23] }) (B : Nat) (v : Value) (Ls : List LD) (g : Nat) (hs : a.eval s = v) (hx : a.eval xo = .slice (some ⟨g, 0, none⟩) 1 1)
    (hk : w.heap[g]? = some (.cells #[.string a1, .string a2, pv, .string a4] 41 (0, 0))) (hown : LsOwn B v Ls w) (hp : POwn B pv L.params w) (hl : Ls.length ≤ 1099511627776) (hbase : B ≤ w.heap.size)
    (h : ∀ v' w', LsOwn B v' (Ls ++ [L]) w' → Left w B w' → w.grownBy w' v.ownBlock → (∀ k, v'.ownBlock = some k → v.ownBlock = some k ∨ k = w.heap.size) → K (a.put ds v') w') : Oper.wp Tryz.prog o a w K Q := by
  obtain ⟨i0, hi, hz0, hz1, hz2⟩ := info_parts infoLine
  obtain ⟨ao, pn, pc, rfl⟩ := hpv
  obtain ⟨vs, hus, hrow, hvals⟩ := hown
  have := step_append_lies (ops := #[]) (E := False) (K := K) (Q := Q) w hgd s xo 23 ho B 41 i0 (.agg #[.string ⟨#[]⟩, .string ⟨#[]⟩, .slice none 0 0, .string ⟨#[]⟩]) 4 72 Tryz.underlying23 hi hz0 hz1 hz2 rfl (by decide) v Ls.length (lcells Ls vs) hs hrow ⟨g, 0, none⟩ 1 1 [.string a1, .string a2, .slice ao pn pc, .string a4] hx rfl (fun j u hj => ?_) (fun u hu => ?_) (by omega) (by unfold maxLen; omega) (by omega) hbase _ rfl (fun g' cap w' h5 h6 h7 _ => ?_)
  · rwa [if_pos (by simp [Region.wanted, hgd])] at this
  · have c : ∀ i, w.cell? ⟨g, i, none⟩ = (#[.string a1, .string a2, .slice ao pn pc, .string a4] : Array Value)[i]? := fun i => Lib.cell_of_heap hk i
    match j, hj with
    | 0, hj => simp at hj; subst hj; simp [Addr.add, c]
    | 1, hj => simp at hj; subst hj; simp [Addr.add, c]
    | 2, hj => simp at hj; subst hj; simp [Addr.add, c]
    | 3, hj => simp at hj; subst hj; simp [Addr.add, c]
  · simp at hu
    rcases hu with rfl | rfl | rfl | rfl <;> rfl
  · rw [hds]
    refine h _ w' ⟨vs ++ [.slice ao pn pc], by simp [hus], ?_, fun j q x hq hx => ?_⟩ (fun B' A' q q1 q2 => q.grown h6 q2 (fun k hk => Nat.le_trans q1 (hrow.lt k hk).1)) h6 (fun k hk => by
      have e : g' = k := by simpa [Value.ownBlock] using hk
      subst e; exact h7)
    · rw [lcells_snoc _ _ _ _ hus, List.length_append, h1, h2, h4]
      exact h5
    · by_cases hj : j < Ls.length
      · rw [List.getElem?_append_left hj] at hq
        rw [List.getElem?_append_left (by omega)] at hx
        exact pBeside (hvals j q x hq hx) hrow h6
      · rw [List.getElem?_append_right (by omega)] at hq
        rw [List.getElem?_append_right (by omega)] at hx
        have hj0 : j = Ls.length := by
          have := (List.getElem?_eq_some_iff.1 hq).1
          simp at this; omega
        subst hj0
        rw [Nat.sub_self] at hq
        rw [hus, Nat.sub_self] at hx
        simp at hq hx
        subst hq; subst hx
        exact pBeside hp hrow h6
theorem LsOwn.lt {B : Nat} {v : Value} {Ls : List LD} {w : World} (h : LsOwn B v Ls w) {g : Nat} (hg : v.ownBlock = some g) : B ≤ g ∧ g < w.heap.size := by
  obtain ⟨vs, _, h2, _⟩ := h
  exact h2.lt g hg
/-- one line of a row of lines, as it is loaded -/
theorem line_src {w wr : World} {b off : Nat} {Ls : List LD} {us : List Value} (hul : us.length = Ls.length) (hcell : ∀ t x, (lcells Ls us)[t]? = some x → w.cell? ⟨b, off + t, none⟩ = some x) (hpr : ∀ (j : Nat) (L : LD) (u : Value), Ls[j]? = some L → us[j]? = some u → PrmsAt w u L.params)
    (hlt : b < w.heap.size) (hb : Below w.heap.size w wr) {j : Nat} {L : LD} (hj : Ls[j]? = some L) :
    ∃ (a1 a2 a4 : ByteArray) (A : Option Addr) (n c : Nat), sv L.group = .string a1 ∧ sv L.name = .string a2 ∧ sv L.value = .string a4 ∧ PrmsAt w (.slice A n c) L.params ∧
      wr.cell? ⟨b, off + j * 4, none⟩ = some (.string a1) ∧ wr.cell? ⟨b, off + j * 4 + 1, none⟩ = some (.string a2) ∧ wr.cell? ⟨b, off + j * 4 + 2, none⟩ = some (.slice A n c) ∧ wr.cell? ⟨b, off + j * 4 + 3, none⟩ = some (.string a4) := by
  have hjl := (List.getElem?_eq_some_iff.1 hj).1
  have hu : us[j]? = some (us[j]'(by omega)) := List.getElem?_eq_getElem (by omega)
  obtain ⟨u, hue⟩ : ∃ u, us[j]'(by omega) = u := ⟨_, rfl⟩
  rw [hue] at hu
  obtain ⟨c0, c1, c2, c3⟩ := lcells_at Ls us j L u hul.symm hj hu
  have hp := hpr j L u hj hu
  obtain ⟨A, _, _, c, rfl, _⟩ := id hp
  have key := fun o x h => (hb.cell (p := ⟨b, o, none⟩) hlt).trans (h : w.cell? ⟨b, o, none⟩ = some x)
  exact ⟨_, _, _, A, _, c, rfl, rfl, rfl, hp, key _ _ (hcell _ _ c0), key _ _ (by have := hcell _ _ c1; rwa [← Nat.add_assoc] at this), key _ _ (by have := hcell _ _ c2; rwa [← Nat.add_assoc] at this), key _ _ (by have := hcell _ _ c3; rwa [← Nat.add_assoc] at this)⟩
/-- a call of a Go function that returns -/
theorem wp_calls {P : Program} {o : Oper} {a : Act} {w w1 : World} {K : Act → World → Prop} {Q : Exit → Act → World → Prop} {ds : Option Nat} (hds : o.dst = ds) (f : FuncId) (args : Array Value) (hr : (execOp a.eval o).run P w = .ok (.enter f args) w1) (hk : Calls P f args w1 fun e w' => ∃ v, e = .returned v ∧ K (a.put ds v) w') : Oper.wp P o a w K Q := by
  unfold Oper.wp
  rw [hr]
  show Calls P f args w1 _
  refine hk.mono ?_
  rintro e w' ⟨v, rfl, h⟩
  rw [← hds] at h
  exact h
end Go.Proofs.YthnnpnlapjlnoaaGreatDoor.Ca
