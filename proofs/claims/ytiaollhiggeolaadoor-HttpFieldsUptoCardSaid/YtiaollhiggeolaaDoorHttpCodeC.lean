/-
  WALKS OF THE PROGRAM's LAYER http: readField, headEnd, requestRow, responseRow.
-/
import Derived.Test.YtiaollhiggeolaaDoorHttpCodeB
import Derived.Test.YtiaollhiggeolaaDoorHttpRefCut
import Derived.Test.YtiaollhiggeolaaDoorHttpSplit
import Derived.Test.YtiaollhiggeolaaDoorStrCut
import Derived.Test.YtiaollhiggeolaaDoorCharNum
import Derived.StillTailTactics
import Derived.Deep.RegionWith
set_option linter.unusedVariables false
namespace Go.Proofs.YtiaollhiggeolaaDoor.Ht
open Go.Lib Go.RowKit Go.Shelf

theorem res2 {W : World} {b : Nat} {x0 x1 : Value} {t : TypeId} (hk : W.heap[b]? = some (.cells #[x0, x1] t (0, 0))) :
    W.cell? ⟨b, 0, none⟩ = some x0 ∧ W.cell? ⟨b, 1, none⟩ = some x1 ∧ W.frozen? ⟨b, 0, none⟩ = false ∧ W.frozen? ⟨b, 1, none⟩ = false := by
  refine ⟨?_, ?_, Lib.frozen_of_heap hk 0, Lib.frozen_of_heap hk 1⟩
  all_goals rw [Lib.cell_of_heap hk]; rfl
theorem cut_some {row : Row} {c : UInt8} {a r : Row} (h1 : c ∉ a) (h2 : row = a ++ c :: r) : cutB c row = some (a, r) := by rw [h2]; exact cutB_at r h1
theorem drew_then {a b : World} (h : Below a.drew.heap.size a.drew b) : Below a.heap.size a b := (Below.drew (Below.refl _ a)).trans h
def FieldP (row : Row) (e : Ending) : Prop := ∃ (n v : ByteArray) (ok : Bool), e = .returned (.tuple #[.agg #[.string n, .string v], .bool ok]) ∧ n.size ≤ row.length ∧ v.size ≤ row.length ∧
  ((ok = true ∧ ∃ p, cutB 58 row = some p ∧ n.data.toList = p.1 ∧ v.data.toList = trim p.2 ∧ nmB p.1 = true ∧ rng 32 126 true (trim p.2) = true) ∨
    (ok = false ∧ ∀ p, cutB 58 row = some p → ¬ (nmB p.1 = true ∧ rng 32 126 true (trim p.2) = true)))
theorem trim_len (s : Row) : (trim s).length ≤ s.length := by
  unfold trim
  rw [List.length_reverse]
  have h1 := (List.dropWhile_sublist bl (l := (s.dropWhile bl).reverse)).length_le
  have h2 := (List.dropWhile_sublist bl (l := s)).length_le
  rw [List.length_reverse] at h1
  omega
set_option maxHeartbeats 4000000 in
set_option maxRecDepth 100000 in
theorem readField_any (s : ByteArray) (w : World) (hs : s.size ≤ 140737488355328) : Calls Tryd.prog 57 #[.string s] w fun e w' => FieldP s.data.toList e ∧ Below w.heap.size w w' := by
  have hO0 : (w.alloc (.cells #[.string ⟨#[]⟩, .string ⟨#[]⟩] 47)).heap[w.heap.size]? = some (.cells #[.string ⟨#[]⟩, .string ⟨#[]⟩] 47 (0, 0)) := heap_alloc_new w _
  have hb0 : Below w.heap.size w (w.alloc (.cells #[.string ⟨#[]⟩, .string ⟨#[]⟩] 47)) := (Below.refl _ _).alloc (Nat.le_refl _) _
  have cC := Sc.sCut_any 58 s (w.alloc (.cells #[.string ⟨#[]⟩, .string ⟨#[]⟩] 47)) hs
  have hb0' := Lib.hid hb0
  have hO0' := Lib.hid hO0
  clear hb0 hO0
  go_enter Tryd.func57, Tryd.ntmps57
  go_wp2_with fail
  go_at_call 45
  with_reducible refine cC.mono ?_
  rintro e w1 ⟨hc, hb1⟩
  have hO1 := Lib.hid ((hb1.block _ (Array.getElem?_eq_some_iff.1 hO0'.out).1).trans hO0'.out)
  have hB1 := Lib.hid (below_then hb0'.out hb1)
  clear hb1 hb0' hO0' cC
  rcases hc with ⟨h1, rfl⟩ | ⟨a, r, h1, h2, rfl⟩
  · have cT := trim_any ⟨#[]⟩ w1 (by decide)
    go_wp2_with fail
    go_at_call 63
    with_reducible refine cT.mono ?_
    rintro e w2 ⟨⟨x, rfl, hx⟩, hb2⟩
    have hO2 := (hb2.block _ (Array.getElem?_eq_some_iff.1 hO1.out).1).trans hO1.out
    have hB2 := Lib.hid (below_then hB1.out hb2)
    have hlt2 : w.heap.size < w2.heap.size := (Array.getElem?_eq_some_iff.1 hO2).1
    have hO3 : (w2.alloc (.cells #[.string s, .string x] 47)).heap[w.heap.size]? = some (.cells #[.string ⟨#[]⟩, .string ⟨#[]⟩] 47 (0, 0)) := (((Below.refl w2.heap.size w2).alloc (Nat.le_refl _) _).block _ hlt2).trans hO2
    have hX3 : (w2.alloc (.cells #[.string s, .string x] 47)).heap[w2.heap.size]? = some (.cells #[.string s, .string x] 47 (0, 0)) := heap_alloc_new w2 _
    have hB3 := Lib.hid (hB2.out.trans (((Below.refl w2.heap.size w2).alloc (Nat.le_refl _) (.cells #[.string s, .string x] 47)).mono (Nat.le_of_lt hlt2)))
    obtain ⟨c0, c1, f0, f1⟩ := res2 hO3
    obtain ⟨d0, d1, _, _⟩ := res2 hX3
    have hfin := Lib.hid (show FieldP s.data.toList (.returned (.tuple #[.agg #[.string s, .string x], .bool false])) from
      ⟨s, x, false, rfl, by rw [Lib.size_eq]; exact Nat.le_refl _, by rw [Lib.size_eq, hx]; exact Nat.zero_le _, .inr ⟨rfl, fun p hp => by rw [cutB_none h1] at hp; cases hp⟩⟩)
    clear hO1 hB1 cT hb2 hO2 hB2 hx h1
    go_wp2_with fail
    generalize hw3 : w2.alloc (.cells #[.string s, .string x] 47) = w3 at c0 c1 f0 f1 d0 d1 hO3 hX3 hB3 ⊢
    clear hw3
    go_region
    go_wp2
    exact bodyPost_ret (v := .tuple #[.agg #[.string s, .string x], .bool false]) (by simp [results, Tryd.results57, go_sem, c0, c1]) rfl ⟨hfin.out, below_drewN 1 ((hB3.out.setCell (p := ⟨w.heap.size, 0, none⟩) (Nat.le_refl _) _).setCell (p := ⟨w.heap.size, 1, none⟩) (Nat.le_refl _) _)⟩
  · have hrs : r.size ≤ s.size := by
      rw [Lib.size_eq, Lib.size_eq, h2]; simp; omega
    have has : a.size ≤ s.size := by
      rw [Lib.size_eq, Lib.size_eq, h2]; simp
    have cT := trim_any r w1 (by omega)
    have hcut := Lib.hid (cut_some h1 h2)
    clear h1 h2
    go_wp2_with fail
    go_at_call 63
    with_reducible refine cT.mono ?_
    rintro e w2 ⟨⟨x, rfl, hx⟩, hb2⟩
    have hxs : x.size ≤ s.size := by
      have := trim_len r.data.toList
      rw [← hx, ← Lib.size_eq, ← Lib.size_eq] at this
      omega
    have hO2 := (hb2.block _ (Array.getElem?_eq_some_iff.1 hO1.out).1).trans hO1.out
    have hB2 := Lib.hid (below_then hB1.out hb2)
    have hlt2 : w.heap.size < w2.heap.size := (Array.getElem?_eq_some_iff.1 hO2).1
    have hO3 : (w2.alloc (.cells #[.string a, .string x] 47)).heap[w.heap.size]? = some (.cells #[.string ⟨#[]⟩, .string ⟨#[]⟩] 47 (0, 0)) := (((Below.refl w2.heap.size w2).alloc (Nat.le_refl _) _).block _ hlt2).trans hO2
    have hX3 : (w2.alloc (.cells #[.string a, .string x] 47)).heap[w2.heap.size]? = some (.cells #[.string a, .string x] 47 (0, 0)) := heap_alloc_new w2 _
    have hB3 := Lib.hid (hB2.out.trans (((Below.refl w2.heap.size w2).alloc (Nat.le_refl _) (.cells #[.string a, .string x] 47)).mono (Nat.le_of_lt hlt2)))
    obtain ⟨d0, d1, _, _⟩ := res2 hX3
    have hlt3 : w2.heap.size < (w2.alloc (.cells #[.string a, .string x] 47)).heap.size := (Array.getElem?_eq_some_iff.1 hX3).1
    obtain ⟨R, hR⟩ : ∃ R, isF a.data.toList x.data.toList = R := ⟨_, rfl⟩
    have hfin := Lib.hid (show FieldP s.data.toList (.returned (.tuple #[.agg #[.string a, .string x], .bool R])) from by
      have hcut := hcut.out
      refine ⟨a, x, R, rfl, by rw [← Lib.size_eq]; exact has, by rw [← Lib.size_eq]; exact hxs, ?_⟩
      unfold isF at hR
      rw [hx, trim_trim] at hR
      cases R with
      | true =>
        simp only [Bool.and_eq_true] at hR
        exact .inl ⟨rfl, _, hcut, rfl, hx, hR.1, hR.2.1⟩
      | false =>
        refine .inr ⟨rfl, fun p hp => ?_⟩
        rw [hcut] at hp
        obtain rfl := Option.some.inj hp
        rintro ⟨k1, k2⟩
        rw [k1, k2] at hR
        simp at hR)
    have cF := fun W => isField_any a x W (by omega) (by omega)
    rw [hR] at cF
    clear hO1 hB1 cT hb2 hO2 hB2 hx hR hcut
    go_wp2_with fail
    generalize hw3 : w2.alloc (.cells #[.string a, .string x] 47) = w3 at d0 d1 hO3 hX3 hB3 hlt3 ⊢
    clear hw3
    have hO3h := Lib.hid hO3
    have hX3h := Lib.hid hX3
    clear hO3 hX3
    go_region_with (go_at_call 51; (with_reducible refine (cF _).mono ?_); rintro e wx ⟨rfl, hbx⟩; have hbx2 : Below w3.heap.size w3 wx := (by first | exact hbx | exact drew_then hbx); obtain ⟨c0, c1, f0, f1⟩ := res2 ((hbx2.block _ (Array.getElem?_eq_some_iff.1 hO3h.out).1).trans hO3h.out); obtain ⟨d0, d1, _, _⟩ := res2 ((hbx2.block _ (Array.getElem?_eq_some_iff.1 hX3h.out).1).trans hX3h.out))
    all_goals
      go_wp2
      exact bodyPost_ret (v := .tuple #[.agg #[.string a, .string x], .bool R]) (by simp [results, Tryd.results57, go_sem, c0, c1]) rfl ⟨hfin.out, by
        have hB := hB3.out.trans (hbx2.mono (Nat.le_trans (Nat.le_of_lt hlt2) (Nat.le_of_lt hlt3)))
        first
          | exact below_drewN 1 ((hB.setCell (p := ⟨w.heap.size, 0, none⟩) (Nat.le_refl _) _).setCell (p := ⟨w.heap.size, 1, none⟩) (Nat.le_refl _) _)
          | exact ((hB.setCell (p := ⟨w.heap.size, 0, none⟩) (Nat.le_refl _) _).setCell (p := ⟨w.heap.size, 1, none⟩) (Nat.le_refl _) _)⟩
end Go.Proofs.YtiaollhiggeolaaDoor.Ht
