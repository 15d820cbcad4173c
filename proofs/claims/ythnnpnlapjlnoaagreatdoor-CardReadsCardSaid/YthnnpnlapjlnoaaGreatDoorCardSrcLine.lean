/-
  ONE LINE OF A ROW OF LINES, as it is loaded.
-/
import Derived.Test.YthnnpnlapjlnoaaGreatDoorMgC
import Derived.Deep.AppendLies
set_option linter.unusedVariables false
namespace Go.Proofs.YthnnpnlapjlnoaaGreatDoor.Ca
open Go.Lib Go.RowKit
open Li (LD PD sv POwn LOwn LineAt PrmsAt)

theorem LsOwn.lt {B : Nat} {v : Value} {Ls : List LD} {w : World} (h : LsOwn B v Ls w) {g : Nat} (hg : v.ownBlock = some g) : B ≤ g ∧ g < w.heap.size := by
  obtain ⟨vs, _, h2, _⟩ := h
  exact h2.lt g hg
/-- one line of a row of lines, as it is loaded -/
theorem line_src {w wr : World} {b off : Nat} {Ls : List LD} {us : List Value} (hul : us.length = Ls.length) (hcell : ∀ t x, (lcells Ls us)[t]? = some x → w.cell? ⟨b, off + t, none⟩ = some x) (hpr : ∀ (j : Nat) (L : LD) (u : Value), Ls[j]? = some L → us[j]? = some u → PrmsAt w u L.params)
    (hlt : b < w.heap.size) (hb : Below w.heap.size w wr) {j : Nat} {L : LD} (hj : Ls[j]? = some L) :
    ∃ (a1 a2 a4 : ByteArray) (A : Option Addr) (n c : Nat), sv L.group = .string a1 ∧ sv L.name = .string a2 ∧ sv L.value = .string a4 ∧ PrmsAt w (.slice A n c) L.params ∧
      wr.cell? ⟨b, off + j * 4, none⟩ = some (.string a1) ∧ wr.cell? ⟨b, off + j * 4 + 1, none⟩ = some (.string a2) ∧ wr.cell? ⟨b, off + j * 4 + 2, none⟩ = some (.slice A n c) ∧ wr.cell? ⟨b, off + j * 4 + 3, none⟩ = some (.string a4) := by
  have hjl := (List.getElem?_eq_some_iff.1 hj).1
  have hu : us[j]? = some (us[j]'(by omega)) := List.getElem?_eq_getElem (by omega)
  obtain ⟨u, hue⟩ : ∃ u, us[j]'(by omega) = u := ⟨_, rfl⟩
  rw [hue] at hu
  obtain ⟨c0, c1, c2, c3⟩ := lcells_at Ls us j L u hul.symm hj hu
  have hp := hpr j L u hj hu
  obtain ⟨A, _, _, c, rfl, _⟩ := id hp
  have key := fun o x h => (hb.cell (p := ⟨b, o, none⟩) hlt).trans (h : w.cell? ⟨b, o, none⟩ = some x)
  exact ⟨_, _, _, A, _, c, rfl, rfl, rfl, hp, key _ _ (hcell _ _ c0), key _ _ (by have := hcell _ _ c1; rwa [← Nat.add_assoc] at this), key _ _ (by have := hcell _ _ c2; rwa [← Nat.add_assoc] at this), key _ _ (by have := hcell _ _ c3; rwa [← Nat.add_assoc] at this)⟩
end Go.Proofs.YthnnpnlapjlnoaaGreatDoor.Ca
