/-
  THE WALK OF THE REFERENCE's Same (of cards) AT ONE LIST OF LINES.
-/
import Derived.Test.YthnnpnlapjlnoaaGreatDoorMgC
import Derived.Deep.RegionHeld3
import Derived.RegionTactic
set_option linter.unusedVariables false
namespace Go.Proofs.YthnnpnlapjlnoaaGreatDoor.Ca
open Go.Lib Go.RowKit
open Li (LD PD sv LineAt PrmsAt)

theorem sameTrue {L : LD} {e : Ending} (h : Li.SameP L L e) : e = .returned (.bool true) := by
  obtain ⟨R, rfl, hR⟩ := h
  rw [hR.2 rfl]
theorem keepThen {a W w' : World} (h : Below W.heap.size W w') (k : Below a.heap.size a W) : Below a.heap.size a w' := belowThen k h
set_option maxHeartbeats 8000000 in
set_option maxRecDepth 100000 in
theorem same5_any (v1 v2 : Value) (Ls : List LD) (w : World) (h1 : LinesAt w v1 Ls) (h2 : LinesAt w v2 Ls) :
    Calls Tryz.prog 12 #[v1, v2] w fun e w' => e = .returned (.bool true) ∧ Below w.heap.size w w' := by
  obtain ⟨A, b, off, c, rfl, a1, a2, a3, a4⟩ := h1
  obtain ⟨B, b', off', c', rfl, d1, d2, d3, d4⟩ := h2
  obtain ⟨n, hn⟩ : ∃ n, Ls.length = n := ⟨_, rfl⟩
  rw [hn] at a1 a3 d1 d3 ⊢
  unfold maxLen at a2 d2
  have hn' := Lib.hid hn
  have a3' := Lib.hid a3
  have a4' := Lib.hid a4
  have d3' := Lib.hid d3
  have d4' := Lib.hid d4
  clear hn a3 a4 d3 d4
  go_enter Tryz.func12, Tryz.ntmps12
  go_wp2
  go_loopw [13] (fun s13 wr => ∃ k : Nat, s13 = .int .i64 (k : Int) ∧ k ≤ n ∧ Below w.heap.size w wr) (fun s13 wr => n - (RowKit.intOf s13).toNat)
  case atStart => exact ⟨0, rfl, Nat.zero_le _, Below.refl _ _⟩
  case round =>
    obtain ⟨k, rfl, hk, hbw⟩ := hrel
    by_cases hlt : k < n
    · have hl : Ls[k]? = some (Ls[k]'(by have := hn'.out; omega)) := List.getElem?_eq_getElem _
      obtain ⟨L, hle⟩ : ∃ L, Ls[k]'(by have := hn'.out; omega) = L := ⟨_, rfl⟩
      rw [hle] at hl
      obtain ⟨rfl, hg⟩ := a3'.out (by omega)
      obtain ⟨rfl, hg2⟩ := d3'.out (by omega)
      obtain ⟨x1, x2, x4, pA, pn, pc, e1, e2, e4, hpn, hpp, g0, g1, g2, g3⟩ := LinesAt.line a4'.out hg hbw hl
      obtain ⟨y1, y2, y4, qA, qn, qc, i1, i2, i4, hqn, hqp, j0, j1, j2, j3⟩ := LinesAt.line d4'.out hg2 hbw hl
      have hL1 : LineAt wr (.agg #[.string x1, .string x2, .slice pA pn pc, .string x4]) L := ⟨.slice pA pn pc, by rw [e1, e2, e4], hpp⟩
      have hL2 : LineAt wr (.agg #[.string y1, .string y2, .slice qA qn qc, .string y4]) L := ⟨.slice qA qn qc, by rw [i1, i2, i4], hqp⟩
      have hgw : b < wr.heap.size := Nat.lt_of_lt_of_le hg hbw.size
      have hgw2 : b' < wr.heap.size := Nat.lt_of_lt_of_le hg2 hbw.size
      have cS : ∀ W, Below wr.heap.size wr W → Calls Tryz.prog 32 #[.agg #[.string x1, .string x2, .slice pA pn pc, .string x4], .agg #[.string y1, .string y2, .slice qA qn qc, .string y4]] W fun e w' => e = .returned (.bool true) ∧ Below W.heap.size W w' := fun W h =>
        (Li.refSame_any _ _ L L W (hL1.kept h) (hL2.kept h)).mono fun e w' ⟨h1, h2⟩ => ⟨sameTrue h1, h2⟩
      have hSS : ∀ W, Below wr.heap.size wr W → Below wr.heap.size wr W ∧ (W.cell? ⟨b, off + k * 4, none⟩ = some (.string x1) ∧ W.cell? ⟨b, off + k * 4 + 1, none⟩ = some (.string x2) ∧ W.cell? ⟨b, off + k * 4 + 2, none⟩ = some (.slice pA pn pc) ∧ W.cell? ⟨b, off + k * 4 + 3, none⟩ = some (.string x4)) ∧
          (W.cell? ⟨b', off' + k * 4, none⟩ = some (.string y1) ∧ W.cell? ⟨b', off' + k * 4 + 1, none⟩ = some (.string y2) ∧ W.cell? ⟨b', off' + k * 4 + 2, none⟩ = some (.slice qA qn qc) ∧ W.cell? ⟨b', off' + k * 4 + 3, none⟩ = some (.string y4)) := fun W h =>
        ⟨h, ⟨(h.cell (p := ⟨b, off + k * 4, none⟩) hgw).trans g0, (h.cell (p := ⟨b, off + k * 4 + 1, none⟩) hgw).trans g1, (h.cell (p := ⟨b, off + k * 4 + 2, none⟩) hgw).trans g2, (h.cell (p := ⟨b, off + k * 4 + 3, none⟩) hgw).trans g3⟩,
          ⟨(h.cell (p := ⟨b', off' + k * 4, none⟩) hgw2).trans j0, (h.cell (p := ⟨b', off' + k * 4 + 1, none⟩) hgw2).trans j1, (h.cell (p := ⟨b', off' + k * 4 + 2, none⟩) hgw2).trans j2, (h.cell (p := ⟨b', off' + k * 4 + 3, none⟩) hgw2).trans j3⟩⟩
      have hSS' := Lib.hid hSS
      have cS' := Lib.hid cS
      clear hle hl e1 e2 e4 i1 i2 i4 hpn hqn hpp hqp hL1 hL2 hSS cS
      go_wp2_with fail
      go_region_held3 (fun W => Below wr.heap.size wr W ∧ (W.cell? ⟨b, off + k * 4, none⟩ = some (.string x1) ∧ W.cell? ⟨b, off + k * 4 + 1, none⟩ = some (.string x2) ∧ W.cell? ⟨b, off + k * 4 + 2, none⟩ = some (.slice pA pn pc) ∧ W.cell? ⟨b, off + k * 4 + 3, none⟩ = some (.string x4)) ∧
          (W.cell? ⟨b', off' + k * 4, none⟩ = some (.string y1) ∧ W.cell? ⟨b', off' + k * 4 + 1, none⟩ = some (.string y2) ∧ W.cell? ⟨b', off' + k * 4 + 2, none⟩ = some (.slice qA qn qc) ∧ W.cell? ⟨b', off' + k * 4 + 3, none⟩ = some (.string y4)))
        (refine hSS'.out _ ?_ <;> first | exact Below.drew (Below.refl _ _) | exact keepThen (by assumption) (And.left (by assumption)) | assumption)
        (first | (go_at_call 32; ((with_reducible refine (cS'.out _ (And.left (by assumption))).mono ?_); rintro e wx ⟨rfl, hbx⟩)))
      all_goals (go_wp2; go_roundw)
      case rel => exact ⟨k + 1, by go_num, by omega, by refine belowThen hbw ?_; first | exact And.left (by assumption) | exact keepThen (by assumption) (And.left (by assumption))⟩
      case measure => simp [RowKit.intOf]; omega
    · go_wp2
      go_ret
      exact ⟨rfl, hbw⟩
end Go.Proofs.YthnnpnlapjlnoaaGreatDoor.Ca
