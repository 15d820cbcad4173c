/-
  TWO TABLES BESIDE EACH OTHER, the program's and the reference's.
-/
import Derived.Test.YtnmcgmfpalgpnaaSesRoomW
import Derived.Test.YtnmcgmfpalgpnaaSesDoneS
import Derived.Test.YtnmcgmfpalgpnaaSesSame
import Derived.Test.YtnmcgmfpalgpnaaSesRefDone
set_option linter.unusedVariables false
namespace Go.Proofs.Ytnmcgmfpalgpnaa.Se
open Go.Lib Go.RowKit

structure Duo (B b x : Nat) (u ur : Value) (T1 T2 : Tb ByteArray) (w : World) : Prop where
  l : TabS B b u T1 w
  r : TabR B x ur T2 w
  bx : b ≠ x
  ux : u.ownBlock ≠ some x
  rb : ur.ownBlock ≠ some b
  two : ∀ k, u.ownBlock = some k → ur.ownBlock ≠ some k
/-- a block that is neither's -/
def Free (b x : Nat) (u ur : Value) (g : Nat) : Prop := g ≠ b ∧ g ≠ x ∧ u.ownBlock ≠ some g ∧ ur.ownBlock ≠ some g
section
variable {B b x : Nat} {u ur : Value} {T1 T2 T' : Tb ByteArray} {w w' : World}
theorem Duo.kept (h : Duo B b x u ur T1 T2 w) (hb : Below w.heap.size w w') : Duo B b x u ur T1 T2 w' := ⟨h.l.kept hb, h.r.kept hb, h.bx, h.ux, h.rb, h.two⟩
theorem Duo.free (h : Duo B b x u ur T1 T2 w) {g : Nat} (hg : w.heap.size ≤ g) : Free b x u ur g :=
  ⟨by have := h.l.lt; omega, by have := h.r.lt; omega, fun e => by have := (h.l.ownLt g e).2; omega, fun e => by have := (h.r.ownLt g e).2; omega⟩
theorem Duo.left (h : Duo B b x u ur T1 T2 w) (hA : After eS 26 42 B b u T' w w') :
    ∃ u', Duo B b x u' ur T' T2 w' ∧ (∀ g, g < w.heap.size → Free b x u ur g → Free b x u' ur g ∧ w'.heap[g]? = w.heap[g]?) ∧ w.heap.size ≤ w'.heap.size ∧ (∀ B' a, B' ≤ B → B' ≤ w.heap.size → Below B' a w → Below B' a w') := by
  obtain ⟨u', hT, ho, hE⟩ := hA
  have hx := h.r.lt
  refine ⟨u', ⟨hT, h.r.beside hE h.bx.symm h.ux h.rb (fun k hk e => h.two k e hk), h.bx, fun e => ?_, h.rb, fun k hk e => ?_⟩, fun g hg hF => ⟨⟨hF.1, hF.2.1, fun e => ?_, hF.2.2.2⟩, hE.block g hg hF.1 hF.2.2.1⟩, hE.size, fun B' a h1 h2 h3 => hE.below h3 (Nat.le_trans h1 h.l.low) (fun k hk => Nat.le_trans h1 (h.l.ownLt k hk).1) h2⟩
  · rcases ho x e with h1 | h1
    · exact h.ux h1
    · omega
  · rcases ho k hk with h1 | h1
    · exact h.two k h1 e
    · have := (h.r.ownLt k e).2; omega
  · rcases ho g e with h1 | h1
    · exact hF.2.2.1 h1
    · omega
theorem Duo.right (h : Duo B b x u ur T1 T2 w) (hA : After eS 29 42 B x ur T' w w') :
    ∃ ur', Duo B b x u ur' T1 T' w' ∧ (∀ g, g < w.heap.size → Free b x u ur g → Free b x u ur' g ∧ w'.heap[g]? = w.heap[g]?) ∧ w.heap.size ≤ w'.heap.size ∧ (∀ B' a, B' ≤ B → B' ≤ w.heap.size → Below B' a w → Below B' a w') := by
  obtain ⟨u', hT, ho, hE⟩ := hA
  have hx := h.l.lt
  refine ⟨u', ⟨h.l.beside hE h.bx h.rb h.ux (fun k hk => h.two k hk), hT, h.bx, h.ux, fun e => ?_, fun k hk e => ?_⟩, fun g hg hF => ⟨⟨hF.1, hF.2.1, hF.2.2.1, fun e => ?_⟩, hE.block g hg hF.2.1 hF.2.2.2⟩, hE.size, fun B' a h1 h2 h3 => hE.below h3 (Nat.le_trans h1 h.r.low) (fun k hk => Nat.le_trans h1 (h.r.ownLt k hk).1) h2⟩
  · rcases ho b e with h1 | h1
    · exact h.rb h1
    · omega
  · rcases ho k e with h1 | h1
    · exact h.two k hk h1
    · have := (h.l.ownLt k hk).2; omega
  · rcases ho g e with h1 | h1
    · exact hF.2.2.2 h1
    · omega
theorem Duo.setCell (h : Duo B b x u ur T1 T2 w) {g : Nat} (hF : Free b x u ur g) (k : Nat) (y : Value) : Duo B b x u ur T1 T2 (w.setCell ⟨g, k, none⟩ y) :=
  ⟨h.l.otherCell (fun e => hF.1 e.symm) hF.2.2.1 k y, h.r.otherCell (fun e => hF.2.1 e.symm) hF.2.2.2 k y, h.bx, h.ux, h.rb, h.two⟩
end
theorem set_len {T l : Tb ByteArray} (h : T.length ≤ 8) : (setT T l).1.length ≤ 8 := by
  unfold setT
  split
  · rename_i h2; exact h2.1
  · exact h
theorem right_rise : ∀ (l : Tb ByteArray) (k : Int), rightT k l = true → (∀ r ∈ l, k < r.id) ∧ (l.map Ro.id).Nodup
  | [], _, _ => ⟨fun r h => by simp at h, by simp⟩
  | r :: l, k, h => by
    unfold rightT at h
    simp only [Bool.and_eq_true, decide_eq_true_eq] at h
    obtain ⟨⟨⟨h1, _⟩, _⟩, h4⟩ := h
    obtain ⟨i1, i2⟩ := right_rise l r.id h4
    refine ⟨fun y hy => ?_, ?_⟩
    · rcases List.mem_cons.1 hy with rfl | hy
      · exact h1
      · have := i1 y hy; omega
    · rw [List.map_cons, List.nodup_cons]
      refine ⟨fun hm => ?_, i2⟩
      obtain ⟨y, hy, e⟩ := List.mem_map.1 hm
      have := i1 y hy
      omega
theorem set_ids {T l : Tb ByteArray} (h : (T.map Ro.id).Nodup) : ((setT T l).1.map Ro.id).Nodup := by
  unfold setT
  split
  · rename_i h2; exact (right_rise l 0 h2.2).2
  · exact h
theorem RsOwn.stored4 {α : Type} {em : α → Value} {e : TypeId} {B g c n : Nat} {t : Tb α} {w : World} (h : RsOwn em e B (.slice (some ⟨g, 0, none⟩) n c) t w) (hn : t.length = n) {i : Nat} {r : Ro α} (hr : t[i]? = some r) (r' : Ro α) :
    RsOwn em e B (.slice (some ⟨g, 0, none⟩) n c) (t.set i r') ((((w.setCell ⟨g, i * 4, none⟩ (.int .i64 r'.id)).setCell ⟨g, i * 4 + 1, none⟩ (.int .i64 r'.last)).setCell ⟨g, i * 4 + 2, none⟩ (.int .i64 r'.used)).setCell ⟨g, i * 4 + 3, none⟩ (em r'.x)) := by
  subst hn
  have h0 : w.ownsRow B e 4 (.slice (some ⟨g, 0, none⟩) t.length c) t.length (rc em t) := h
  obtain ⟨h1, _⟩ := h0.stored (i * 4) (.int .i64 r'.id)
  obtain ⟨h2, _⟩ := h1.stored (i * 4 + 1) (.int .i64 r'.last)
  obtain ⟨h3, _⟩ := h2.stored (i * 4 + 2) (.int .i64 r'.used)
  obtain ⟨h4, _⟩ := h3.stored (i * 4 + 3) (em r'.x)
  rw [rc_set4 em t i r r' hr] at h4
  unfold RsOwn
  rw [List.length_set]
  exact h4
theorem rc_setId {α : Type} (em : α → Value) : ∀ (t : Tb α) (i : Nat) (r : Ro α) (z : Int), t[i]? = some r → (rc em t).set (i * 4) (.int .i64 z) = rc em (t.set i ⟨z, r.last, r.used, r.x⟩)
  | [], i, r, z, h => by simp at h
  | q :: t, 0, r, z, h => by simp at h; subst h; rfl
  | q :: t, i + 1, r, z, h => by
    have := rc_setId em t i r z (by simpa using h)
    rw [show (i + 1) * 4 = i * 4 + 1 + 1 + 1 + 1 by omega]
    simp only [rc, List.set_cons_succ]
    rw [this]
theorem RsOwn.storedId {α : Type} {em : α → Value} {e : TypeId} {B g c n : Nat} {t : Tb α} {w : World} (h : RsOwn em e B (.slice (some ⟨g, 0, none⟩) n c) t w) (hn : t.length = n) {i : Nat} {r : Ro α} (hr : t[i]? = some r) (z : Int) :
    w.cell? ⟨g, i * 4, none⟩ = some (.int .i64 r.id) ∧ w.cell? ⟨g, i * 4 + 1, none⟩ = some (.int .i64 r.last) ∧ w.cell? ⟨g, i * 4 + 2, none⟩ = some (.int .i64 r.used) ∧ w.cell? ⟨g, i * 4 + 3, none⟩ = some (em r.x) ∧ w.frozen? ⟨g, i * 4, none⟩ = false ∧
      RsOwn em e B (.slice (some ⟨g, 0, none⟩) n c) (t.set i ⟨z, r.last, r.used, r.x⟩) (w.setCell ⟨g, i * 4, none⟩ (.int .i64 z)) := by
  subst hn
  have h0 : w.ownsRow B e 4 (.slice (some ⟨g, 0, none⟩) t.length c) t.length (rc em t) := h
  have hl := (List.getElem?_eq_some_iff.1 hr).1
  obtain ⟨d0, d1, d2, d3⟩ := rc_at em t i r hr
  obtain ⟨h1, _⟩ := h0.stored (i * 4) (.int .i64 z)
  rw [rc_setId em t i r z hr] at h1
  refine ⟨?_, ?_, ?_, ?_, h0.frozenAt _, ?_⟩
  · rw [h0.cellAt _ (by omega)]; exact d0
  · rw [h0.cellAt _ (by omega)]; exact d1
  · rw [h0.cellAt _ (by omega)]; exact d2
  · rw [h0.cellAt _ (by omega)]; exact d3
  · unfold RsOwn
    rw [List.length_set]
    exact h1
theorem modN (z : Int) {n : Nat} (h : 0 < n) (h8 : n ≤ 8) : ∃ r : Nat, (IntKind.u64.wrap z).tmod (n : Int) = (r : Int) ∧ r < n := by
  have h0 : 0 ≤ IntKind.u64.wrap z := by
    unfold IntKind.wrap
    simp only [IntKind.bits, IntKind.signed]
    simp
    omega
  have h1 := Int.emod_nonneg (IntKind.u64.wrap z) (b := (n : Int)) (by omega)
  have h2 := Int.emod_lt_of_pos (IntKind.u64.wrap z) (b := (n : Int)) (by omega)
  refine ⟨((IntKind.u64.wrap z) % (n : Int)).toNat, ?_, by omega⟩
  rw [Int.tmod_eq_emod_of_nonneg h0, Int.toNat_of_nonneg h1]
end Go.Proofs.Ytnmcgmfpalgpnaa.Se
