/-
  THE WALK OF card.copyLine: a line with parameters of its own.
-/
import Derived.Test.YthnnpnlapjlnoaaGreatDoorMg23
set_option linter.unusedVariables false
namespace Go.Proofs.YthnnpnlapjlnoaaGreatDoor.Ca
open Go.Lib Go.RowKit Bu Li

set_option maxHeartbeats 8000000 in
set_option maxRecDepth 100000 in
theorem copyLine_any (v : Value) (L : LD) (w : World) (hv : LineAt w v L) (hn0 : L.params.length ≤ 1099511627776) (hvs : ∀ p ∈ L.params, p.vals.length ≤ 8796093022208) :
    Calls Tryz.prog 42 #[v] w fun e w' => (∃ u, e = .returned u ∧ LOwn w.heap.size u L w') ∧ Below w.heap.size w w' := by
  obtain ⟨j0, hj, hjz0, hjz1, hjz2⟩ := info_parts infoPrm
  obtain ⟨pv, rfl, A, b, o, c, rfl, h1, h2, h3, h4⟩ := hv
  obtain ⟨n, hn⟩ : ∃ n, L.params.length = n := ⟨_, rfl⟩
  rw [hn] at h1 h3 hn0 ⊢
  obtain ⟨a1, ha1⟩ : ∃ a : ByteArray, (⟨L.group.toArray⟩ : ByteArray) = a := ⟨_, rfl⟩
  obtain ⟨a2, ha2⟩ : ∃ a : ByteArray, (⟨L.name.toArray⟩ : ByteArray) = a := ⟨_, rfl⟩
  obtain ⟨a4, ha4⟩ : ∃ a : ByteArray, (⟨L.value.toArray⟩ : ByteArray) = a := ⟨_, rfl⟩
  have hfin : ∀ pv W, POwn (w.heap.size + 2) pv L.params W → LOwn w.heap.size (.agg #[.string a1, .string a2, pv, .string a4]) L W := fun pv W h => ⟨pv, by unfold sv; rw [ha1, ha2, ha4], h.less (by omega)⟩
  unfold sv
  rw [ha1, ha2, ha4]
  have hn' := Lib.hid hn
  have h3' := Lib.hid h3
  have h4' := Lib.hid h4
  have hvs' := Lib.hid hvs
  have hfin' := Lib.hid hfin
  unfold maxLen at h2
  clear ha1 ha2 ha4 hn h3 h4 hvs hfin
  go_enter Tryz.func42, Tryz.ntmps42
  go_wp2
  obtain ⟨wB, hwB⟩ : ∃ wB, (w.alloc (.cells #[.string a1, .string a2, .slice A n c, .string a4] 41)).alloc (.cells #[.string ⟨#[]⟩, .string ⟨#[]⟩, .slice none 0 0, .string ⟨#[]⟩] 41) = wB := ⟨_, rfl⟩
  have hbB : Below w.heap.size w wB := by rw [← hwB]; exact ((Below.refl _ _).alloc (Nat.le_refl _) _).alloc (by simp) _
  have hxB : wB.heap[w.heap.size]? = some (.cells #[.string a1, .string a2, .slice A n c, .string a4] 41 (0, 0)) := by
    rw [← hwB, Below.heap_alloc _ _ _ (by simp)]
    exact heap_alloc_new w _
  have hyB : wB.heap[w.heap.size + 1]? = some (.cells #[.string ⟨#[]⟩, .string ⟨#[]⟩, .slice none 0 0, .string ⟨#[]⟩] 41 (0, 0)) := by
    rw [← hwB]
    have := heap_alloc_new (w.alloc (.cells #[.string a1, .string a2, .slice A n c, .string a4] 41)) (.cells #[.string ⟨#[]⟩, .string ⟨#[]⟩, .slice none 0 0, .string ⟨#[]⟩] 41)
    simpa using this
  rw [hwB]
  clear hwB
  go_loopw [3, 9] (fun s3 s9 wr => ∃ k : Nat, s9 = .int .i64 (k : Int) ∧ k ≤ n ∧ Below w.heap.size w wr ∧ Hid (wr.heap[w.heap.size]? = some (.cells #[.string a1, .string a2, .slice A n c, .string a4] 41 (0, 0))) ∧
      Hid (wr.heap[w.heap.size + 1]? = some (.cells #[.string ⟨#[]⟩, .string ⟨#[]⟩, .slice none 0 0, .string ⟨#[]⟩] 41 (0, 0))) ∧ POwn (w.heap.size + 2) s3 (L.params.take k) wr) (fun s3 s9 wr => n - (RowKit.intOf s9).toNat)
  case atStart => exact ⟨0, rfl, Nat.zero_le _, hbB, Lib.hid hxB, Lib.hid hyB, POwn.nil _ _⟩
  case round =>
    obtain ⟨k, rfl, hk, hbw, hx, hy, hown⟩ := hrel
    have hlk0 : (L.params.take k).length = k := by rw [List.length_take]; have := hn'.out; omega
    obtain ⟨pA, pC, rfl⟩ := hown.form
    rw [hlk0] at hown ⊢
    have hzw : w.heap.size + 1 < wr.heap.size := (Array.getElem?_eq_some_iff.1 hy.out).1
    obtain ⟨q0, q1, q2, q3, r0, r1, r2, r3⟩ := res4 hx.out
    by_cases hlt : k < n
    · have hv : L.params[k]? = some (L.params[k]'(by have := hn'.out; omega)) := List.getElem?_eq_getElem _
      obtain ⟨V, hV⟩ : ∃ V, L.params[k]'(by have := hn'.out; omega) = V := ⟨_, rfl⟩
      have hVm : V ∈ L.params := by rw [← hV]; exact List.getElem_mem _
      rw [hV] at hv
      obtain ⟨rfl, hg⟩ := h3'.out (by omega)
      obtain ⟨hc, u, hu, hsu⟩ := h4'.out k V hv
      rw [← hbw.cell (p := ⟨b, o + k * 2, none⟩) hg] at hc
      rw [← hbw.cell (p := ⟨b, o + k * 2 + 1, none⟩) hg] at hu
      have hVl := hvs'.out V hVm
      obtain ⟨x, hx1⟩ : ∃ x : ByteArray, (⟨V.name.toArray⟩ : ByteArray) = x := ⟨_, rfl⟩
      unfold sv at hc
      rw [hx1] at hc
      have hal : Below wr.heap.size wr (wr.alloc (.cells #[.string x, u] 47)) := (Below.refl _ _).alloc (Nat.le_refl _) _
      have hS := hsu.kept (below_then hbw hal)
      obtain ⟨A2, c2, rfl⟩ : ∃ A c, u = .slice A V.vals.length c := by
        obtain ⟨A, b, o, c, h, _⟩ := hsu
        exact ⟨A, c, h⟩
      have hrow := World.ownsRow_nil (wr.alloc (.cells #[.string x, .slice A2 V.vals.length c2] 47)) (wr.heap.size + 1) 9 1
      obtain ⟨l, hl⟩ : ∃ l, V.vals.length = l := ⟨_, rfl⟩
      rw [hl] at hu hal hS hrow hVl
      have hv' := Lib.hid hv
      have hx1' := Lib.hid hx1
      have hl' := Lib.hid hl
      clear hv hV hVm hsu hx1 hl hg
      go_wp2_with (at_builtin; refine wpList_append_strs rfl _ _ rfl (wr.heap.size + 1) (.slice none 0 0) (.slice A2 l c2) V.vals rfl rfl hrow hS ?c1 (by simp) ?_)
      case c1 => have := hl'.out; omega
      intro v2 w2 hO2 hg2
      have hz2 : wr.heap.size < w2.heap.size := by have := hg2.size; simp at this; omega
      have hb2 : Below wr.heap.size wr w2 := hal.grown hg2 (by simp) (fun k hk => by simp [Value.ownBlock] at hk)
      have hpb : w2.heap[wr.heap.size]? = some (.cells #[.string x, .slice A2 l c2] 47 (0, 0)) := by
        rw [hg2.block wr.heap.size (by simp) (by simp [Value.ownBlock])]
        exact heap_alloc_new wr _
      have hx2 := (hb2.block w.heap.size (by omega)).trans hx.out
      have hy2 := (hb2.block (w.heap.size + 1) hzw).trans hy.out
      obtain ⟨us, hus, hrow0, hvals⟩ := hown
      obtain ⟨ao, cc, rfl⟩ : ∃ ao c, v2 = .slice ao V.vals.length c := by
        rcases hO2.2 with ⟨h1, h2⟩ | ⟨g, cap, cur, h1, _⟩
        · exact ⟨none, 0, by rw [h1, h2]⟩
        · exact ⟨_, _, h1⟩
      rw [hl'.out] at hO2 ⊢
      have hb3 : Below wr.heap.size wr (w2.setCell ⟨wr.heap.size, 1, none⟩ (.slice ao l cc)) := hb2.setCell (p := ⟨wr.heap.size, 1, none⟩) (Nat.le_refl _) _
      have hal3 : Below (w2.setCell ⟨wr.heap.size, 1, none⟩ (.slice ao l cc)).heap.size (w2.setCell ⟨wr.heap.size, 1, none⟩ (.slice ao l cc)) ((w2.setCell ⟨wr.heap.size, 1, none⟩ (.slice ao l cc)).alloc (.cells #[.string x, .slice ao l cc] 47)) := (Below.refl _ _).alloc (Nat.le_refl _) _
      have hb4 := below_then hb3 hal3
      have hO3 : Own (w.heap.size + 2) (.slice ao l cc) V.vals ((w2.setCell ⟨wr.heap.size, 1, none⟩ (.slice ao l cc)).alloc (.cells #[.string x, .slice ao l cc] 47)) :=
        Own.less (ownsRow_kept (ownsRow_setCell_below hO2 (a := ⟨wr.heap.size, 1, none⟩) (by simp) _) hal3) (by omega)
      have hrow4 := ownsRow_kept hrow0 hb4
      have hvals4 := fun j p u hp hu => (hvals j p u hp hu).kept hb4
      have hlk : (L.params.take k).length = k := by rw [List.length_take]; have := hn'.out; omega
      have hmore : ∀ (v' : Value) (w' : World), w'.ownsRow (w.heap.size + 2) 47 2 v' ((L.params.take k).length + 1) (pcells (L.params.take k) us ++ [.string x, .slice ao l cc]) →
          ((w2.setCell ⟨wr.heap.size, 1, none⟩ (.slice ao l cc)).alloc (.cells #[.string x, .slice ao l cc] 47)).grownBy w' (Value.slice pA k pC).ownBlock → POwn (w.heap.size + 2) v' (L.params.take (k + 1)) w' := fun v' w' h5 h6 => by
        have := POwn.more (p := V) (w' := w') (v' := v') hus hrow4 hvals4 hO3 (by unfold sv; rw [hx1'.out]; exact h5) h6
        obtain ⟨hlt2, hve⟩ := List.getElem?_eq_some_iff.1 hv'.out
        rw [List.take_succ_eq_append_getElem hlt2, hve]
        exact this
      rw [hlk] at hrow4 hmore
      have hmore' := Lib.hid hmore
      have hx2' := Lib.hid hx2
      have hy2' := Lib.hid hy2
      have hbw4 := below_then hbw hb4
      obtain ⟨m0, m1, m2, m3, m4, m5, m6, m7⟩ := res4 hx2
      have s0 : w2.cell? ⟨wr.heap.size, 0, none⟩ = some (.string x) := by rw [Lib.cell_of_heap hpb]; rfl
      have s1 : w2.cell? ⟨wr.heap.size, 1, none⟩ = some (.slice A2 l c2) := by rw [Lib.cell_of_heap hpb]; rfl
      have t1 : w2.frozen? ⟨wr.heap.size, 1, none⟩ = false := Lib.frozen_of_heap hpb 1
      have hg4 : k ≤ 1099511627776 := by omega
      have hne : ¬ w.heap.size = wr.heap.size := by omega
      clear hO2 hg2 hrow hS hal hx2 hy2 hpb hrow0 hvals hvals4 hO3 hmore hb2 hb3 hlk hus q0 q1 q2 q3 r0 r1 r2 r3 hx hy
      go_wp2_with (at_builtin; refine wpList_append_own _ rfl _ _ 39 rfl (w.heap.size + 2) 47 j0 (.agg #[.string ⟨#[]⟩, .slice none 0 0]) 2 40 Tryz.underlying39 hj hjz0 hjz1 hjz2 rfl (by decide) _ _ _ rfl hrow4 ⟨w2.heap.size, 0, none⟩ 1 1 [.string x, .slice ao l cc] rfl rfl ?d1 ?d2 ?d3 ?d4 ?d5 ?_)
      case d1 =>
        intro j u hj
        match j, hj with
        | 0, hj => simp at hj; subst hj; simp [Addr.add]; rw [World.cell?_alloc_at _ _ _ _ (by simp)]; rfl
        | 1, hj => simp at hj; subst hj; simp [Addr.add]; rw [World.cell?_alloc_at _ _ _ _ (by simp)]; rfl
      case d2 => intro u hu; simp at hu; rcases hu with rfl | rfl <;> rfl
      case d3 => unfold maxLen; omega
      case d4 => omega
      case d5 => have := hbw4.size; simp; omega
      intro v5 w5 hown5 hg5 _
      have hP5 := hmore'.out v5 w5 hown5 hg5
      have hpo : ∀ g, (Value.slice pA k pC).ownBlock = some g → w.heap.size + 2 ≤ g := fun g hg => (hrow4.lt g hg).1
      have hx5 : w5.heap[w.heap.size]? = some (.cells #[.string a1, .string a2, .slice (some ⟨b, o, none⟩) n c, .string a4] 41 (0, 0)) := by
        rw [hg5.block w.heap.size (by simp; omega) (fun e => by have := hpo _ e.symm; omega), Below.heap_alloc _ _ _ (by simp; omega), Below.heap_setCell _ _ _ _ hne]
        exact hx2'.out
      have hy5 : w5.heap[w.heap.size + 1]? = some (.cells #[.string ⟨#[]⟩, .string ⟨#[]⟩, .slice none 0 0, .string ⟨#[]⟩] 41 (0, 0)) := by
        rw [hg5.block (w.heap.size + 1) (by simp; omega) (fun e => by have := hpo _ e.symm; omega), Below.heap_alloc _ _ _ (by simp; omega), Below.heap_setCell _ _ _ _ (by show ¬ w.heap.size + 1 = wr.heap.size; omega)]
        exact hy2'.out
      have hb5 : Below w.heap.size w w5 := hbw4.grown hg5 (by simp; omega) (fun g hg => by have := hpo g hg; omega)
      have hx6' := Lib.hid hx5
      have hy6' := Lib.hid hy5
      clear hown5 hg5 hx5 hy5 hrow4 hpo m0 m1 m2 m3 m4 m5 m6 m7 s0 s1 t1
      go_wp2
      go_roundw
      case rel => exact ⟨k + 1, by go_num, by omega, hb5, hx6', hy6', hP5⟩
      case measure => simp [RowKit.intOf]; omega
    · rw [List.take_of_length_le (by have := hn'.out; omega)] at hown
      have hzw0 : w.heap.size < wr.heap.size := by omega
      obtain ⟨y0, y1, y2, y3, f0, f1, f2, f3⟩ := res4 hy.out
      have hs1 := hown.stored (a := ⟨w.heap.size, 2, none⟩) (by show w.heap.size < w.heap.size + 2; omega) (.slice pA k pC)
      have hlo := Lib.hid (hfin'.out _ _ (((((hs1.stored (a := ⟨w.heap.size + 1, 0, none⟩) (by show w.heap.size + 1 < w.heap.size + 2; omega) (.string a1)).stored (a := ⟨w.heap.size + 1, 1, none⟩) (by show w.heap.size + 1 < w.heap.size + 2; omega) (.string a2)).stored (a := ⟨w.heap.size + 1, 2, none⟩) (by show w.heap.size + 1 < w.heap.size + 2; omega) (.slice pA k pC)).stored (a := ⟨w.heap.size + 1, 3, none⟩) (by show w.heap.size + 1 < w.heap.size + 2; omega) (.string a4))))
      have hbf := ((((hbw.setCell (p := ⟨w.heap.size, 2, none⟩) (Nat.le_refl _) (.slice pA k pC)).setCell (p := ⟨w.heap.size + 1, 0, none⟩) (by show w.heap.size ≤ w.heap.size + 1; omega) (.string a1)).setCell (p := ⟨w.heap.size + 1, 1, none⟩) (by show w.heap.size ≤ w.heap.size + 1; omega) (.string a2)).setCell (p := ⟨w.heap.size + 1, 2, none⟩) (by show w.heap.size ≤ w.heap.size + 1; omega) (.slice pA k pC)).setCell (p := ⟨w.heap.size + 1, 3, none⟩) (by show w.heap.size ≤ w.heap.size + 1; omega) (.string a4)
      clear hx hy hown hs1 hlk0
      go_wp2
      exact bodyPost_ret (v := .agg #[.string a1, .string a2, .slice pA k pC, .string a4]) (by simp [results, Tryz.results42, go_sem, y0, y1, y2, y3]) rfl ⟨⟨_, rfl, hlo.out⟩, hbf⟩
end Go.Proofs.YthnnpnlapjlnoaaGreatDoor.Ca
