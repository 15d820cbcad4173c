/-
  THE WALK OF fold.Fold.
-/
import Derived.Test.YtdocajpnlejagaaDoorFoldFit
set_option linter.unusedVariables false
namespace Go.Proofs.YtdocajpnlejagaaDoor.Fo
open Go.Lib Go.RowKit Bu

def Reads (w : World) (b off : Nat) (ls : List Row) : Prop := ∀ j, j < ls.length → w.cell? ⟨b, off + j, none⟩ = some (sv (ls.getD j []))
theorem Reads.below {w w' : World} {b off : Nat} {ls : List Row} (h : Reads w b off ls) (hb : b < w.heap.size) (hw : Below w.heap.size w w') : Reads w' b off ls := fun j hj => by
  rw [hw.cell (p := ⟨b, off + j, none⟩) hb]; exact h j hj
theorem Own.reads {B : Nat} {v : Value} {ls : List Row} {w : World} (h : Own B v ls w) : (v = .slice none 0 0 ∧ ls = []) ∨ ∃ g cap, v = .slice (some ⟨g, 0, none⟩) ls.length cap ∧ B ≤ g ∧ g < w.heap.size ∧ Reads w g 0 ls := by
  obtain ⟨h1, h2 | ⟨g, cap, cur, e1, e2, e3, e4, e5, e6, e7⟩⟩ := h
  · exact .inl ⟨h2.1, List.eq_nil_of_length_eq_zero h2.2⟩
  · right
    refine ⟨g, cap, e1, e2, (Array.getElem?_eq_some_iff.1 e3).1, fun j hj => ?_⟩
    have hc : w.cell? ⟨g, 0 + j, none⟩ = cur[j]? := by
      rw [Lib.cell_of_heap e3, Nat.zero_add]
    rw [hc]
    have : (cur.toList.take (ls.length * 1))[j]? = (ls.map sv)[j]? := by rw [e7]
    rw [List.getElem?_take, if_pos (by omega), List.getElem?_map] at this
    rw [← Array.getElem?_toList, this, List.getD_eq_getElem?_getD, List.getElem?_eq_getElem hj]
    rfl
theorem foldAll_take (ls : List Row) (k : Nat) (h : k < ls.length) : foldAll (ls.take (k + 1)) = foldAll (ls.take k) ++ foldL (ls.getD k []) := by
  rw [List.take_succ_eq_append_getElem h, List.getD_eq_getElem?_getD, List.getElem?_eq_getElem h]
  unfold foldAll
  rw [List.map_append, List.flatten_append]
  simp only [List.map_cons, List.map_nil, List.flatten_cons, List.flatten_nil, List.append_nil]
  rfl
theorem tot_take (ls : List Row) (k : Nat) (h : k < ls.length) : tot (ls.take k) + (ls.getD k []).length + 1 ≤ tot ls := by
  have e : ls = ls.take k ++ (ls.getD k [] :: ls.drop (k + 1)) := by
    conv => lhs; rw [← List.take_append_drop k ls, List.drop_eq_getElem_cons h]
    rw [List.getD_eq_getElem?_getD, List.getElem?_eq_getElem h]; rfl
  conv => rhs; rw [e, tot_append]
  have : tot (ls.getD k [] :: ls.drop (k + 1)) = (ls.getD k []).length + 1 + tot (ls.drop (k + 1)) := by simp [tot]
  omega

set_option maxHeartbeats 4000000 in
set_option maxRecDepth 100000 in
theorem fold_nil (w : World) : Calls Tryd.prog 11 #[.slice none 0 0] w fun e w' => e = .returned (.string ⟨#[]⟩) ∧ Below w.heap.size w w' := by
  go_enter Tryd.func11, Tryd.ntmps11
  go_wp2
  refine wp_loop_rounds 1 ?_
  rw [rounds_succ]
  go_wp2_with (go_at_call 16; refine (text_any w.heap.size w.heap.size [] _ (fresh w) (by simp)).mono ?_; rintro e w1 ⟨rfl, _, hb1⟩)
  go_ret
  exact ⟨rfl, ((Below.refl _ _).alloc (Nat.le_refl _) _).trans hb1⟩

set_option maxHeartbeats 4000000 in
set_option maxRecDepth 100000 in
theorem fold_some (b off cap : Nat) (ls : List Row) (w : World) (hT : Tabs w) (hb : b < w.heap.size) (hc : Reads w b off ls) (hs : tot ls ≤ 17179869184) :
    Calls Tryd.prog 11 #[.slice (some ⟨b, off, none⟩) ls.length cap] w fun e w' => e = .returned (.string ⟨(foldAll ls).toArray⟩) ∧ Below w.heap.size w w' := by
  have hT' := Lib.hid hT
  have hc' := Lib.hid hc
  obtain ⟨n, hn⟩ : ∃ n, ls.length = n := ⟨_, rfl⟩
  have hn9 : n ≤ 17179869184 := by have := tot_len ls; omega
  rw [hn]
  have hn' := Lib.hid hn
  have hs' := Lib.hid hs
  clear hT hc hn hs
  go_enter Tryd.func11, Tryd.ntmps11
  go_wp2
  go_loopw [8] (fun s8 wr => ∃ k : Nat, s8 = .int .i64 (k : Int) ∧ k ≤ n ∧ Bd w.heap.size w.heap.size (foldAll (ls.take k)) wr ∧ Below w.heap.size w wr) (fun s8 wr => n - (RowKit.intOf s8).toNat)
  case atStart => exact ⟨0, rfl, Nat.zero_le _, by simpa [foldAll] using fresh w, (Below.refl _ _).alloc (Nat.le_refl _) _⟩
  case round =>
    obtain ⟨k, rfl, hk, hbd, hbw⟩ := hrel
    by_cases hlt : k < n
    · have hkl : k < ls.length := by rw [hn'.out]; exact hlt
      have hcell : wr.cell? ⟨b, off + k, none⟩ = some (sv (ls.getD k [])) := by rw [hbw.cell (p := ⟨b, off + k, none⟩) hb]; exact hc'.out k hkl
      have htk := tot_take ls k hkl
      have hfl := foldAll_len (ls.take k)
      have hft := foldAll_take ls k hkl
      obtain ⟨x, hx⟩ : ∃ x : ByteArray, (⟨(ls.getD k []).toArray⟩ : ByteArray) = x := ⟨_, rfl⟩
      have hxd : x.data.toList = ls.getD k [] := by rw [← hx]
      unfold sv at hcell
      rw [hx] at hcell
      rw [← hxd] at htk hft
      rw [← Lib.size_eq] at htk
      have hx1 : x.size ≤ 1099511627776 := by have := hs'.out; omega
      have hx2 : (foldAll (ls.take k)).length + 4 * x.size ≤ 70368744177664 := by have := hs'.out; omega
      have hft' := Lib.hid hft
      have hbr := hbd.lt
      have cL := foldLine_any x (foldAll (ls.take k)) w.heap.size w.heap.size wr (fun W hW => tabs_below hT'.out (hbw.trans hW)) hbd hx1 hx2 (by omega)
      clear hx hxd htk hfl hft
      go_wp2_with (go_at_call 15; refine cL.mono ?_; rintro e w1 ⟨rfl, hbd1, hb1⟩)
      go_roundw
      case rel => exact ⟨k + 1, by go_num, by omega, by rw [hft'.out]; exact hbd1, hbw.trans hb1⟩
      case measure => simp [RowKit.intOf]; omega
    · have hfin : ls.take k = ls := List.take_of_length_le (by rw [hn'.out]; omega)
      have hfin' := Lib.hid hfin
      have hbr := hbd.lt
      clear hfin
      go_wp2_with (go_at_call 16; refine (text_any w.heap.size w.heap.size _ _ hbd (by omega)).mono ?_; rintro e w1 ⟨rfl, _, hb1⟩)
      go_ret
      exact ⟨by rw [hfin'.out]; rfl, hbw.trans hb1⟩
end Go.Proofs.YtdocajpnlejagaaDoor.Fo
