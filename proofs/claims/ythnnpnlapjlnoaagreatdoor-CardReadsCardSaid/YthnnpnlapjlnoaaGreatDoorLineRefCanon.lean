/-
  THE WALK OF THE REFERENCE's Canon.
-/
import Derived.Test.YthnnpnlapjlnoaaGreatDoorMgC
set_option linter.unusedVariables false
namespace Go.Proofs.YthnnpnlapjlnoaaGreatDoor.Li
open Go.Lib Go.RowKit Bu

theorem set4_0 {W : World} {g : Nat} {y0 y1 y2 y3 : Value} {t : TypeId} (hk : W.heap[g]? = some (.cells #[y0, y1, y2, y3] t (0, 0))) (x : Value) : (W.setCell ⟨g, 0, none⟩ x).heap[g]? = some (.cells #[x, y1, y2, y3] t (0, 0)) := by
  simp [World.setCell, Array.getElem?_modify, hk]
theorem set4_1 {W : World} {g : Nat} {y0 y1 y2 y3 : Value} {t : TypeId} (hk : W.heap[g]? = some (.cells #[y0, y1, y2, y3] t (0, 0))) (x : Value) : (W.setCell ⟨g, 1, none⟩ x).heap[g]? = some (.cells #[y0, x, y2, y3] t (0, 0)) := by
  simp [World.setCell, Array.getElem?_modify, hk]

set_option maxHeartbeats 16000000 in
set_option maxRecDepth 100000 in
theorem refCanon_any (v : Value) (L : LD) (w : World) (hv : LineAt w v L) (hg : L.group.length ≤ 281474976710656) (hm : L.name.length ≤ 281474976710656) (hnm : ∀ p ∈ L.params, p.name.length ≤ 281474976710656) (hn0 : L.params.length ≤ 1099511627776) (hvs : ∀ p ∈ L.params, p.vals.length ≤ 8796093022208) :
    Calls Tryz.prog 34 #[v] w fun e w' => (∃ u, e = .returned u ∧ LOwn w.heap.size u (canL L) w') ∧ Below w.heap.size w w' := by
  have cF := fun W h => refCopy_any v L W h hn0 hvs
  obtain ⟨a1, a2, a4, A, n, c, rfl, hn, _⟩ := hv.box'
  obtain ⟨Z, hZ⟩ : ∃ Z, w.heap.size = Z := ⟨_, rfl⟩
  obtain ⟨wB, hwB⟩ : ∃ wB, (w.alloc (.cells #[.string a1, .string a2, .slice A n c, .string a4] 41)).alloc (.cells #[.string ⟨#[]⟩, .string ⟨#[]⟩, .slice none 0 0, .string ⟨#[]⟩] 41) = wB := ⟨_, rfl⟩
  have hbB : Below w.heap.size w wB := by rw [← hwB]; exact ((Below.refl _ _).alloc (Nat.le_refl _) _).alloc (by simp) _
  have hxB : wB.heap[w.heap.size]? = some (.cells #[.string a1, .string a2, .slice A n c, .string a4] 41 (0, 0)) := by rw [← hwB]; exact blk_alloc (heap_alloc_new w _) _
  have hyB : wB.heap[w.heap.size + 1]? = some (.cells #[.string ⟨#[]⟩, .string ⟨#[]⟩, .slice none 0 0, .string ⟨#[]⟩] 41 (0, 0)) := by
    rw [← hwB]
    have := heap_alloc_new (w.alloc (.cells #[.string a1, .string a2, .slice A n c, .string a4] 41)) (.cells #[.string ⟨#[]⟩, .string ⟨#[]⟩, .slice none 0 0, .string ⟨#[]⟩] 41)
    simpa using this
  have hvB := hv.kept hbB
  rw [hZ] at hbB hxB hyB ⊢
  have hzB : Z + 1 < wB.heap.size := (Array.getElem?_eq_some_iff.1 hyB).1
  obtain ⟨p0, p1, p2, p3, _, _, _, _⟩ := res4 hxB
  have hn1 : n ≤ 1099511627776 := by omega
  have hn' := Lib.hid hn
  have hxB' := Lib.hid hxB
  have hyB' := Lib.hid hyB
  have hnm' := Lib.hid hnm
  clear hv hn hxB hyB hnm hvs
  go_enter Tryz.func34, Tryz.ntmps34
  go_wp2_with fail
  first | go_at_call 17 | skip
  clear hwB p0 p1 p2 p3
  refine (cF wB hvB).mono ?_
  rintro e w3 ⟨⟨u3, rfl, hu3⟩, hb3⟩
  obtain ⟨pd, rfl, hpd⟩ := hu3
  obtain ⟨d1, ed1, hd1⟩ := sv_some L.group
  obtain ⟨d2, ed2, hd2⟩ := sv_some L.name
  obtain ⟨d4, ed4, hd4⟩ := sv_some L.value
  obtain ⟨ad, cd, rfl⟩ := hpd.form
  rw [ed1, ed2, ed4]
  rw [← hn'.out] at hpd ⊢
  obtain ⟨B, hB⟩ : ∃ B, wB.heap.size = B := ⟨_, rfl⟩
  rw [hB] at hpd hzB
  have hx3 := blk_below hb3 hxB'.out
  have hy3 := blk_below hb3 hyB'.out
  have hbZ : Below Z w w3 := hbB.trans (hb3.mono (by omega))
  have hBs : B ≤ w3.heap.size := by have := hb3.size; omega
  obtain ⟨p0, p1, p2, p3, q0, q1, q2, q3⟩ := res4 hx3
  have hZ0 : Z ≤ Z := Nat.le_refl _
  -- the copy is stored
  obtain ⟨w4, hw4⟩ : ∃ w4, ((((w3.setCell ⟨Z, 0, none⟩ (.string d1)).setCell ⟨Z, 1, none⟩ (.string d2)).setCell ⟨Z, 2, none⟩ (.slice ad n cd)).setCell ⟨Z, 3, none⟩ (.string d4)) = w4 := ⟨_, rfl⟩
  have hx4 : w4.heap[Z]? = some (.cells #[.string d1, .string d2, .slice ad n cd, .string d4] 41 (0, 0)) := by rw [← hw4]; exact set4_blk hx3 _ _ _ _
  have hy4 : w4.heap[Z + 1]? = some (.cells #[.string ⟨#[]⟩, .string ⟨#[]⟩, .slice none 0 0, .string ⟨#[]⟩] 41 (0, 0)) := by
    rw [← hw4]; exact blk_store (blk_store (blk_store (blk_store hy3 (by show Z + 1 ≠ Z; omega) _) (by show Z + 1 ≠ Z; omega) _) (by show Z + 1 ≠ Z; omega) _) (by show Z + 1 ≠ Z; omega) _
  have hb4 : Below Z w w4 := by rw [← hw4]; exact (((hbZ.setCell (p := ⟨Z, 0, none⟩) hZ0 _).setCell (p := ⟨Z, 1, none⟩) hZ0 _).setCell (p := ⟨Z, 2, none⟩) hZ0 _).setCell (p := ⟨Z, 3, none⟩) hZ0 _
  have hp4 : POwn B (.slice ad n cd) L.params w4 := by
    have hzz : Z < B := by omega
    rw [← hw4]; exact (((hpd.stored (a := ⟨Z, 0, none⟩) hzz _).stored (a := ⟨Z, 1, none⟩) hzz _).stored (a := ⟨Z, 2, none⟩) hzz _).stored (a := ⟨Z, 3, none⟩) hzz _
  have hs4 : B ≤ w4.heap.size := by rw [← hw4]; simpa [World.setCell] using hBs
  obtain ⟨x0, x1, x2, x3, f0, f1, f2, f3⟩ := res4 hx4
  have hd1' := Lib.hid hd1
  have hd2' := Lib.hid hd2
  have hd4' := Lib.hid hd4
  obtain ⟨g1, hg1⟩ : ∃ g1 : ByteArray, (⟨(Ch.up d1.data.toList).toArray⟩ : ByteArray) = g1 := ⟨_, rfl⟩
  obtain ⟨g2, hg2⟩ : ∃ g2 : ByteArray, (⟨(Ch.up d2.data.toList).toArray⟩ : ByteArray) = g2 := ⟨_, rfl⟩
  have cU1 := fun W => Ch.refUpper_any d1 W (by rw [Lib.size_eq, hd1]; exact hg)
  have cU2 := fun W => Ch.refUpper_any d2 W (by rw [Lib.size_eq, hd2]; exact hm)
  rw [hg1] at cU1
  rw [hg2] at cU2
  have hgd1 := Lib.hid (show g1.data.toList = Ch.up L.group by rw [← hg1, hd1])
  have hgd2 := Lib.hid (show g2.data.toList = Ch.up L.name by rw [← hg2, hd2])
  have hx4' := Lib.hid hx4
  have hy4' := Lib.hid hy4
  clear ed1 ed2 ed4 hd1 hd2 hd4 hg1 hg2 hg hm hx4 hy4 hx3 hy3 hb3 hpd hB hBs hbZ hxB' hyB' hbB hvB cF hZ0
  go_wp2_with fail
  first | go_at_call 22 | skip
  clear hw4
  refine (cU1 w4).mono ?_
  rintro e w5 ⟨rfl, hb5⟩
  have hx5 := blk_below hb5 hx4'.out
  have hy5 := blk_below hb5 hy4'.out
  have hp5 := hp4.kept hb5
  have hbb5 : Below Z w w5 := hb4.trans (hb5.mono (by omega))
  have hs5 : B ≤ w5.heap.size := Nat.le_trans hs4 hb5.size
  have hzz : Z < B := by omega
  clear x0 x1 x2 x3 f0 f1 f2 f3 p0 p1 p2 p3 q0 q1 q2 q3 hb4 hb5 hp4 hs4 cU1
  obtain ⟨x0, x1, x2, x3, f0, f1, f2, f3⟩ := res4 hx5
  have hx6 := set4_0 hx5 (.string g1)
  have hy6 := blk_store hy5 (p := ⟨Z, 0, none⟩) (by show Z + 1 ≠ Z; omega) (.string g1)
  have hp6 := hp5.stored (a := ⟨Z, 0, none⟩) hzz (.string g1)
  have hb6 := hbb5.setCell (p := ⟨Z, 0, none⟩) (Nat.le_refl _) (.string g1)
  obtain ⟨w6, hw6⟩ : ∃ w6, w5.setCell ⟨Z, 0, none⟩ (.string g1) = w6 := ⟨_, rfl⟩
  have hs6 : B ≤ w6.heap.size := by rw [← hw6]; simpa [World.setCell] using hs5
  rw [hw6] at hx6 hy6 hp6 hb6
  obtain ⟨y0, y1, y2, y3, e0, e1, e2, e3⟩ := res4 hx6
  have hx6' := Lib.hid hx6
  have hy6' := Lib.hid hy6
  clear hx5 hy5 hp5 hbb5 hs5 hx6 hy6
  go_wp2_with fail
  first | go_at_call 22 | skip
  clear hw6
  refine (cU2 w6).mono ?_
  rintro e w7 ⟨rfl, hb7⟩
  have hx7 := blk_below hb7 hx6'.out
  have hy7 := blk_below hb7 hy6'.out
  have hp7 := hp6.kept hb7
  have hbb7 : Below Z w w7 := hb6.trans (hb7.mono (by omega))
  have hs7 : B ≤ w7.heap.size := Nat.le_trans hs6 hb7.size
  clear x0 x1 x2 x3 f0 f1 f2 f3 y0 y1 y2 y3 e0 e1 e2 e3 hb6 hb7 hp6 hs6 cU2
  obtain ⟨x0, x1, x2, x3, f0, f1, f2, f3⟩ := res4 hx7
  have hx8 := set4_1 hx7 (.string g2)
  have hy8 := blk_store hy7 (p := ⟨Z, 1, none⟩) (by show Z + 1 ≠ Z; omega) (.string g2)
  have hp8 := hp7.stored (a := ⟨Z, 1, none⟩) hzz (.string g2)
  have hb8 := hbb7.setCell (p := ⟨Z, 1, none⟩) (Nat.le_refl _) (.string g2)
  obtain ⟨w8, hw8⟩ : ∃ w8, w7.setCell ⟨Z, 1, none⟩ (.string g2) = w8 := ⟨_, rfl⟩
  have hs8 : B ≤ w8.heap.size := by rw [← hw8]; simpa [World.setCell] using hs7
  rw [hw8] at hx8 hy8 hp8 hb8
  obtain ⟨y0, y1, y2, y3, e0, e1, e2, e3⟩ := res4 hx8
  have hx8' := Lib.hid hx8
  have hy8' := Lib.hid hy8
  rw [← mixP_zero L.params] at hp8
  clear hx7 hy7 hp7 hbb7 hs7 hx8 hy8
  go_wp2_with fail
  clear hw8 x0 x1 x2 x3 f0 f1 f2 f3 y0 y1 y2 y3 e0 e1 e2 e3
  go_loopw [17] (fun s17 wr => ∃ k : Nat, s17 = .int .i64 (k : Int) ∧ k ≤ n ∧ Below Z w wr ∧ B ≤ wr.heap.size ∧ Hid (wr.heap[Z + 1]? = some (.cells #[.string ⟨#[]⟩, .string ⟨#[]⟩, .slice none 0 0, .string ⟨#[]⟩] 41 (0, 0))) ∧
      Hid (wr.heap[Z]? = some (.cells #[.string g1, .string g2, .slice ad n cd, .string d4] 41 (0, 0))) ∧ POwn B (.slice ad n cd) (mixP L.params k) wr) (fun s17 wr => n - (RowKit.intOf s17).toNat)
  case atStart => exact ⟨0, rfl, Nat.zero_le _, hb8, hs8, hy8', hx8', hp8⟩
  case round =>
    clear hb8 hs8 hy8' hx8' hp8
    obtain ⟨k, rfl, hk, hbw, hBr, hy, hx, hpo⟩ := hrel
    obtain ⟨x0, x1, x2, x3, _, _, _, _⟩ := res4 hx.out
    by_cases hlt : k < n
    · have hv : L.params[k]? = some (L.params[k]'(by have := hn'.out; omega)) := List.getElem?_eq_getElem _
      obtain ⟨V, hV⟩ : ∃ V, L.params[k]'(by have := hn'.out; omega) = V := ⟨_, rfl⟩
      have hVm : V ∈ L.params := by rw [← hV]; exact List.getElem_mem _
      rw [hV] at hv
      obtain ⟨xn, ex, hxn⟩ := sv_some V.name
      obtain ⟨gx, hgx⟩ : ∃ gx : ByteArray, (⟨(Ch.up xn.data.toList).toArray⟩ : ByteArray) = gx := ⟨_, rfl⟩
      have cU := fun W => Ch.refUpper_any xn W (by rw [Lib.size_eq, hxn]; exact hnm'.out V hVm)
      rw [hgx] at cU
      have hgxd : gx.data.toList = (canP V).name := by rw [← hgx, hxn]; rfl
      obtain ⟨gd, cd', epd, hgB, hglt, hgne, hfr, hce, _⟩ := hpo.setName (mixP_at _ _ _ hv) gx
      injection epd with e1 e2 e3
      subst e1; subst e3
      rw [ex] at hce
      have hZg : Z ≠ gd := by omega
      have hZg1 : Z + 1 ≠ gd := by omega
      have hnx : ∀ W, Below wr.heap.size wr W → W.frozen? ⟨gd, k * 2, none⟩ = false ∧ (POwn B (.slice (some ⟨gd, 0, none⟩) n cd) (mixP L.params (k + 1)) (W.setCell ⟨gd, k * 2, none⟩ (.string gx))) := fun W hW => by
        obtain ⟨gd2, cd2, ep2, _, _, _, hf2, _, hp2⟩ := (hpo.kept hW).setName (mixP_at _ _ _ hv) gx
        injection ep2 with e1 e2 e3
        have e1 := Option.some.inj e1
        injection e1 with e1
        subst e1
        rw [hgxd] at hp2
        refine ⟨hf2, ?_⟩
        rw [mixP_step _ _ _ hv]
        exact hp2
      have hnx' := Lib.hid hnx
      have jk : (k : Int) < (n : Int) := by omega
      have j0 : (0 : Int) ≤ (k : Int) := by omega
      clear hv hV hVm ex hxn hgx hgxd hgne hpo hnx e2
      go_wp2_with fail
      go_region_law (first
        | (go_simp; go_at_call 22; refine (cU _).mono ?_; rintro e wx ⟨rfl, hbx⟩; have hbx2 := below_drew_then hbx; have hkx := blk_below hbx2 hx.out; obtain ⟨z0, z1, z2, z3, z4, z5, z6, z7⟩ := res4 hkx; have hszx := hbx2.size; obtain ⟨hfx, hpx⟩ := hnx'.out wx hbx2; have hcx := (Below.cells hbx2 gd (k * 2) hglt).trans hce))
      all_goals
        have hfin : Below Z w (wx.setCell ⟨gd, k * 2, none⟩ (.string gx)) ∧ B ≤ (wx.setCell ⟨gd, k * 2, none⟩ (.string gx)).heap.size ∧ Hid ((wx.setCell ⟨gd, k * 2, none⟩ (.string gx)).heap[Z + 1]? = some (.cells #[.string ⟨#[]⟩, .string ⟨#[]⟩, .slice none 0 0, .string ⟨#[]⟩] 41 (0, 0))) ∧
            Hid ((wx.setCell ⟨gd, k * 2, none⟩ (.string gx)).heap[Z]? = some (.cells #[.string g1, .string g2, .slice (some ⟨gd, 0, none⟩) n cd, .string d4] 41 (0, 0))) ∧ POwn B (.slice (some ⟨gd, 0, none⟩) n cd) (mixP L.params (k + 1)) (wx.setCell ⟨gd, k * 2, none⟩ (.string gx)) :=
          ⟨(hbw.trans (hbx2.mono (by omega))).setCell (p := ⟨gd, k * 2, none⟩) (by show Z ≤ gd; omega) _, by simp [World.setCell]; omega, Lib.hid (blk_store (blk_below hbx2 hy.out) (p := ⟨gd, k * 2, none⟩) hZg1 _), Lib.hid (blk_store hkx (p := ⟨gd, k * 2, none⟩) hZg _), hpx⟩
        have hfin' := Lib.hid hfin
        clear hfin hbx hbx2 hkx z0 z1 z2 z3 z4 z5 z6 z7 hfx hpx hcx x0 x1 x2 x3 hbw hy hx
        go_wp2_with fail
        go_roundw
      all_goals first
        | exact ⟨k + 1, by go_num, by omega, hfin'.out⟩
        | (simp [RowKit.intOf]; omega)
    · rw [mixP_all _ _ (by have := hn'.out; omega)] at hpo
      obtain ⟨y0, y1, y2, y3, f0, f1, f2, f3⟩ := res4 hy.out
      have h1 := hgd1.out
      have h2 := hgd2.out
      have h4 := hd4'.out
      have hZB : Z + 1 < B := by omega
      have hfin : ∀ W, POwn B (.slice ad n cd) (L.params.map canP) W → LOwn Z (.agg #[.string g1, .string g2, .slice ad n cd, .string d4]) (canL L) W := fun W h => ⟨_, by show _ = Value.agg #[sv (Ch.up L.group), sv (Ch.up L.name), _, sv L.value]; rw [← h1, ← h2, ← h4, sv_data, sv_data, sv_data], h.less (by omega)⟩
      have hlo := Lib.hid (hfin _ (((((hpo.stored (a := ⟨Z + 1, 0, none⟩) hZB (.string g1)).stored (a := ⟨Z + 1, 1, none⟩) hZB (.string g2)).stored (a := ⟨Z + 1, 2, none⟩) hZB (.slice ad n cd)).stored (a := ⟨Z + 1, 3, none⟩) hZB (.string d4))))
      have hZ1 : Z ≤ Z + 1 := by omega
      have hbf := (((hbw.setCell (p := ⟨Z + 1, 0, none⟩) hZ1 (.string g1)).setCell (p := ⟨Z + 1, 1, none⟩) hZ1 (.string g2)).setCell (p := ⟨Z + 1, 2, none⟩) hZ1 (.slice ad n cd)).setCell (p := ⟨Z + 1, 3, none⟩) hZ1 (.string d4)
      clear hy hx hpo hfin h1 h2 h4
      go_wp2
      exact bodyPost_ret (v := .agg #[.string g1, .string g2, .slice ad n cd, .string d4]) (by simp [results, Tryz.results34, go_sem, y0, y1, y2, y3]) rfl ⟨⟨_, rfl, hlo.out⟩, hbf⟩
end Go.Proofs.YthnnpnlapjlnoaaGreatDoor.Li
