/-
  APPEND ONTO A ROW OF LINES OF THE CALL's OWN, AS ONE STEP of a region that draws its order (for 'go_region_law').
-/
import Derived.Test.YthnnpnlapjlnoaaGreatDoorMg23
import Derived.Deep.AppendLies
set_option linter.unusedVariables false
namespace Go.Proofs.YthnnpnlapjlnoaaGreatDoor.Ca
open Go.Lib Go.RowKit
open Li (LD PD sv LineAt PrmsAt)

theorem mix_step {w : World} {ops : Array Oper} {o : Oper} {a : Act} {K : Act → World → Prop} {Q : Exit → Act → World → Prop} {E : Prop} (hgd : o.guard = none) (s xo : Operand)
    (ho : o.op = .call { callee := .builtin .append, args := #[s, xo], argTypes := #[23, 23] }) (B : Nat) (v : Value) (Ls : List LD) (wp : World) (hs : a.eval s = v) (hown : Mix B v Ls wp w)
    (ad : Addr) (b off m c : Nat) (Ms : List LD) (us : List Value) (hx : a.eval xo = .slice (some ad) m c) (hm : Ms.length = m) (hm0 : 0 < m) (hu : us.length = m) (hA : ad = ⟨b, off, none⟩) (hc : ∀ t x, (lcells Ms us)[t]? = some x → w.cell? ⟨b, off + t, none⟩ = some x)
    (hP : ∀ (j : Nat) (L : LD) (u : Value), Ms[j]? = some L → us[j]? = some u → PrmsAt wp u L.params) (hl : Ls.length + m ≤ 1099511627776) (hbase : B ≤ w.heap.size)
    (h : ∀ v' w', Mix B v' (Ls ++ Ms) wp w' → Left w B w' → w.grownBy w' v.ownBlock → (∀ k, v'.ownBlock = some k → v.ownBlock = some k ∨ k = w.heap.size) → K (a.put o.dst v') w') : if Region.wanted o (yielded ops a.tmps) = true then Oper.wp Tryz.prog o a w K Q else E := by
  obtain ⟨i0, hi, hz0, hz1, hz2⟩ := info_parts infoLine
  obtain ⟨vs, h1, hrow, h3, h4, h5⟩ := hown
  have hlen := lcells_len Ms us (by omega)
  refine step_append_lies w hgd s xo 23 ho B 41 i0 (.agg #[.string ⟨#[]⟩, .string ⟨#[]⟩, .slice none 0 0, .string ⟨#[]⟩]) 4 72 Tryz.underlying23 hi hz0 hz1 hz2 rfl (by decide) v Ls.length (lcells Ls vs) hs hrow ad m c (lcells Ms us) hx (by rw [hlen, hm]) (fun j u hj => ?_) (fun u hu' => ?_) hm0 (by unfold maxLen; omega) (by omega) hbase _ rfl (fun g cap w' h6 h7 h8 _ => h _ w' ?_ ?_ h7 (fun k hk => by
    have e : g = k := by simpa [Value.ownBlock] using hk
    subst e; exact h8))
  · have hlt := (List.getElem?_eq_some_iff.1 hj).1
    obtain rfl := hA
    have := hc j u hj
    unfold Addr.add
    by_cases hj0 : j = 0
    · subst hj0; simpa using this
    · rw [if_neg hj0]; exact this
  · obtain ⟨t, ht⟩ := List.getElem?_of_mem hu'
    obtain ⟨j, L, y, q1, q2, q3⟩ := lcells_get Ms us t u (by omega) ht
    rcases q3 with ⟨_, e⟩ | ⟨_, e⟩ | ⟨_, e⟩ | ⟨_, e⟩
    · rw [e]; rfl
    · rw [e]; rfl
    · rw [e]; exact prms_one (hP j L y q1 q2)
    · rw [e]; rfl
  · refine ⟨vs ++ us, by simp; omega, ?_, fun j L u hL hju => ?_, h4.grown h7 (by have := h4.size; omega) (fun k hk => Nat.le_trans h5 (hrow.lt k hk).1), h5⟩
    · rw [lcells_app _ _ _ _ h1, List.length_append, hm]; exact h6
    · by_cases hj : j < Ls.length
      · rw [List.getElem?_append_left hj] at hL
        rw [List.getElem?_append_left (by omega)] at hju
        exact h3 j L u hL hju
      · rw [List.getElem?_append_right (by omega)] at hL
        rw [List.getElem?_append_right (by omega)] at hju
        exact hP (j - Ls.length) L u hL (by rw [h1]; exact hju)
  · exact fun B' A' q q1 q2 => q.grown h7 q2 (fun k hk => Nat.le_trans q1 (hrow.lt k hk).1)
/-- the same at 'Oper.wp' -/
theorem mix_op {w : World} {o : Oper} {a : Act} {K : Act → World → Prop} {Q : Exit → Act → World → Prop} (hgd : o.guard = none) {ds : Option Nat} (hds : o.dst = ds) (s xo : Operand)
    (ho : o.op = .call { callee := .builtin .append, args := #[s, xo], argTypes := #[23, 23] }) (B : Nat) (v : Value) (Ls : List LD) (wp : World) (hs : a.eval s = v) (hown : Mix B v Ls wp w)
    (ad : Addr) (b off m c : Nat) (Ms : List LD) (us : List Value) (hx : a.eval xo = .slice (some ad) m c) (hm : Ms.length = m) (hm0 : 0 < m) (hu : us.length = m) (hA : ad = ⟨b, off, none⟩) (hc : ∀ t x, (lcells Ms us)[t]? = some x → w.cell? ⟨b, off + t, none⟩ = some x)
    (hP : ∀ (j : Nat) (L : LD) (u : Value), Ms[j]? = some L → us[j]? = some u → PrmsAt wp u L.params) (hl : Ls.length + m ≤ 1099511627776) (hbase : B ≤ w.heap.size)
    (h : ∀ v' w', Mix B v' (Ls ++ Ms) wp w' → Left w B w' → w.grownBy w' v.ownBlock → (∀ k, v'.ownBlock = some k → v.ownBlock = some k ∨ k = w.heap.size) → K (a.put ds v') w') : Oper.wp Tryz.prog o a w K Q := by
  have := mix_step (ops := #[]) (E := False) (Q := Q) hgd s xo ho B v Ls wp hs hown ad b off m c Ms us hx hm hm0 hu hA hc hP hl hbase (by rw [hds]; exact h)
  rwa [if_pos (by simp [Region.wanted, hgd])] at this
end Go.Proofs.YthnnpnlapjlnoaaGreatDoor.Ca
