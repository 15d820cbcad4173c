/-
  THE WALK OF THE LAW CardNeeds.
-/
import Derived.Test.YthnnpnlapjlnoaaGreatDoorMgOrder
import Derived.Test.YthnnpnlapjlnoaaGreatDoorCardRegN
set_option linter.unusedVariables false
namespace Go.Proofs.YthnnpnlapjlnoaaGreatDoor.Ca
open Go.Lib Go.RowKit
open Li (LD PD sv LineAt PrmsAt chk pr)

theorem Mix.stored {B : Nat} {v : Value} {Ls : List LD} {wp w : World} (h : Mix B v Ls wp w) {a : Addr} (ha : a.block < B) (hw : wp.heap.size ≤ a.block) (u : Value) : Mix B v Ls wp (w.setCell a u) := by
  obtain ⟨vs, h1, h2, h3, h4, h5⟩ := h
  exact ⟨vs, h1, ownsRow_setCell_below h2 ha u, h3, h4.setCell hw _, h5⟩
theorem two_cells {w : World} {g : Nat} {xs : List Value} {t : TypeId} (h : w.heap[g]? = some (.cells xs.toArray t (0, 0))) : ∀ i x, xs[i]? = some x → w.cell? ⟨g, 0 + i, none⟩ = some x := fun i x hx => by
  rw [Lib.cell_of_heap h, Nat.zero_add]
  simpa using hx
theorem mod_of (z : Int) (m : Int) (h : 0 < m) (hm : m ≤ 1000) : ∃ r : Nat, (IntKind.u64.wrap z).tmod m = (r : Int) ∧ (r : Int) < m := by
  have h0 : 0 ≤ IntKind.u64.wrap z := by
    unfold IntKind.wrap
    simp only [IntKind.bits, IntKind.signed]
    simp
    omega
  have h1 := Int.emod_nonneg (IntKind.u64.wrap z) (b := m) (by omega)
  have h2 := Int.emod_lt_of_pos (IntKind.u64.wrap z) (b := m) h
  refine ⟨((IntKind.u64.wrap z) % m).toNat, ?_, by omega⟩
  rw [Int.tmod_eq_emod_of_nonneg h0, Int.toNat_of_nonneg h1]
theorem up_sv {l : Row} {x : ByteArray} (h : sv l = .string x) (w : World) (hs : l.length ≤ 281474976710656) :
    Calls Tryz.prog 22 #[.string x] w fun e w' => e = .returned (sv (Ch.up l)) ∧ Below w.heap.size w w' := by
  have hx : x.data.toList = l := sv_size h
  have := Ch.refUpper_any x w (by rw [Lib.size_eq, hx]; exact hs)
  rw [hx] at this
  exact this

set_option maxHeartbeats 4000000 in
set_option maxRecDepth 100000 in
theorem needs_walk (v : Value) (Ls : List LD) (z : Int) (w : World) (h : LinesAt w v Ls) (hS : prsum Ls ≤ 4194304) (hT : Ch.Tabs w) :
    Calls Tryz.prog 7 #[.agg #[v], .int .i64 z] w fun e w' => e = .returned (.bool true) ∧ Below w.heap.size w w' := by
  obtain ⟨n, hn⟩ : ∃ n, Ls.length = n := ⟨_, rfl⟩
  have hnl : n ≤ 4194304 := by have := prsum_len Ls; omega
  have hsz : ∀ L ∈ Ls, Li.SzL 4194304 L := fun L hL => Li.sz_pr (N := 4194304) (by have := prsum_mem hL; omega)
  have cF := fun W (hW : Below w.heap.size w W) => first_any W (Ch.tabs_below hT hW)
  have cS := fun W (hW : Below w.heap.size w W) => small_any v Ls W (h.kept hW) (by omega) (fun L hL => ⟨by have := (hsz L hL).k; omega, fun p hp => by have := (hsz L hL).pk p hp; omega⟩)
  have cPP := fun u Ms W (hW : Below w.heap.size w W) (hu : LinesAt W u Ms) (hm : prsum Ms ≤ 67108864) => print_any u Ms W hu hm (Ch.tabs_below hT hW)
  have cK := fun u Ms W (hW : Below w.heap.size w W) (hu : LinesAt W u Ms) (hm : prsum Ms ≤ 67108864) => check_any u Ms W hu (smallC_of (by omega)) (Ch.tabs_below hT hW)
  obtain ⟨A, b, off, c, us, rfl, hul, hA, hcell, hpr⟩ := h.src
  rw [hn] at hA h cS ⊢
  have hL := fun W (hW : Below w.heap.size w W) => h.kept hW
  obtain ⟨w1, hw1⟩ : ∃ w1, w.alloc (.cells #[.slice A n c] 25) = w1 := ⟨_, rfl⟩
  have hB1 : Below w.heap.size w w1 := by rw [← hw1]; exact (Below.refl _ _).alloc (Nat.le_refl _) _
  have hbox : w1.cell? ⟨w.heap.size, 0, none⟩ = some (.slice A n c) := by rw [← hw1]; simp
  have hz1 : w.heap.size < w1.heap.size := by rw [← hw1]; simp
  go_enter Tryz.func7, Tryz.ntmps7
  go_wp2_with fail
  go_at_call 9
  with_reducible refine (cF w1 hB1).mono ?_
  rintro e w2 ⟨rfl, hb2⟩
  have hB2 := belowThen hB1 hb2
  have hbox2 : w2.cell? ⟨w.heap.size, 0, none⟩ = some (.slice A n c) := (hb2.cell (p := ⟨w.heap.size, 0, none⟩) hz1).trans hbox
  have hz2 : w.heap.size < w2.heap.size := Nat.lt_of_lt_of_le hz1 hb2.size
  have cF' := Lib.hid cF
  have cP' := Lib.hid cK
  have hL' := Lib.hid hL
  have hpr' := Lib.hid hpr
  have hcell' := Lib.hid hcell
  have hA' := Lib.hid hA
  have hT' := Lib.hid hT
  have hsz' := Lib.hid hsz
  have hn' := Lib.hid hn
  have cS2 := cS w2 hB2
  clear cF cK cPP hL hpr hcell hA hT hsz hn cS hb2 hB1 hbox hw1 h
  go_wp2_with fail
  go_at_call 16
  with_reducible refine cS2.mono ?_
  rintro e w3 ⟨⟨bb, rfl⟩, hb3⟩
  have hB3 := belowThen hB2 hb3
  have hbox3 : w3.cell? ⟨w.heap.size, 0, none⟩ = some (.slice A n c) := (hb3.cell (p := ⟨w.heap.size, 0, none⟩) hz2).trans hbox2
  have hz3 : w.heap.size < w3.heap.size := Nat.lt_of_lt_of_le hz2 hb3.size
  clear hb3 hbox2 hz2 hB2 cS2 hz1
  cases bb with
  | false =>
    have c3 := cF'.out w3 hB3
    go_wp2_with fail
    go_at_call 9
    with_reducible refine c3.mono ?_
    rintro e w4 ⟨rfl, hb4⟩
    go_wp2
    go_ret
    exact ⟨rfl, belowThen hB3 hb4⟩
  | true =>
    have hB3' := Lib.hid hB3
    have cK1 := cP'.out _ Ls w3 hB3 (hL'.out w3 hB3) (by omega)
    obtain ⟨ce, hce⟩ : ∃ ce, checkE Ls = ce := ⟨_, rfl⟩
    rw [hce] at cK1
    clear hB3
    go_wp2_with fail
    go_at_call 19
    with_reducible refine cK1.mono ?_
    rintro e w4 ⟨rfl, hb4⟩
    have hB4 := belowThen hB3'.out hb4
    have hbox4 : w4.cell? ⟨w.heap.size, 0, none⟩ = some (.slice A n c) := (hb4.cell (p := ⟨w.heap.size, 0, none⟩) hz3).trans hbox3
    have hz4 : w.heap.size < w4.heap.size := Nat.lt_of_lt_of_le hz3 hb4.size
    have hB4' := Lib.hid hB4
    have hce' := Lib.hid hce
    clear cK1 hb4 hbox3 hz3 hce hB3' hB4
    by_cases hm0 : ce = 0
    · subst hm0
      obtain ⟨w5, hw5⟩ : ∃ w5, w4.alloc (.cells #[.slice none 0 0] 25) = w5 := ⟨_, rfl⟩
      have hb45 : Below w4.heap.size w4 w5 := by rw [← hw5]; exact (Below.refl _ _).alloc (Nat.le_refl _) _
      have hk5 : w5.heap[w4.heap.size]? = some (.cells #[.slice none 0 0] 25 (0, 0)) := by rw [← hw5]; exact heap_alloc_new w4 _
      have hsz5 : w5.heap.size = w4.heap.size + 1 := by rw [← hw5]; simp
      have hbox5 : w5.cell? ⟨w.heap.size, 0, none⟩ = some (.slice A n c) := (hb45.cell (p := ⟨w.heap.size, 0, none⟩) hz4).trans hbox4
      obtain ⟨db, hdb⟩ : ∃ db, w4.heap.size = db := ⟨_, rfl⟩
      rw [hdb] at hk5 hsz5
      have hm5 : Mix (db + 1) (.slice none 0 0) (noFN (Ls.take 0)) w4 w5 := Mix.nil hb45 (by omega)
      have hk5' := Lib.hid hk5
      have hb45' := Lib.hid hb45
      have hm5' := Lib.hid hm5
      have hbox4' := Lib.hid hbox4
      clear hk5 hb45 hm5 hbox4
      go_wp2_with fail
      try rw [hw5]
      try rw [hdb]
      go_loopw [26] (fun s26 wr => ∃ (k : Nat) (v : Value), s26 = .int .i64 (k : Int) ∧ k ≤ n ∧ db + 1 ≤ wr.heap.size ∧ Hid (wr.heap[db]? = some (.cells #[v] 25 (0, 0))) ∧ Hid (Mix (db + 1) v (noFN (Ls.take k)) w4 wr) ∧ Hid (Below w4.heap.size w4 wr)) (fun s26 wr => n - (RowKit.intOf s26).toNat)
      case atStart => exact ⟨0, _, rfl, Nat.zero_le _, by omega, hk5', hm5', hb45'⟩
      case round =>
        clear hk5' hb45' hm5' hbox5
        obtain ⟨k, v, rfl, hk, hsz, hkd, hmx, hbw⟩ := hrel
        by_cases hlt : k < n
        · have hl : Ls[k]? = some (Ls[k]'(by have := hn'.out; omega)) := List.getElem?_eq_getElem _
          obtain ⟨L, hle⟩ : ∃ L, Ls[k]'(by have := hn'.out; omega) = L := ⟨_, rfl⟩
          have hmem : L ∈ Ls := by rw [← hle]; exact List.getElem_mem _
          rw [hle] at hl
          obtain ⟨rfl, hbz⟩ := hA'.out (by omega)
          obtain ⟨a1, a2, a4, pA, pn, pc, e1, e2, e4, hP, g0, g1, g2, g3⟩ := src_line hul hcell'.out hpr'.out hbz (belowThen hB4'.out hbw.out) hl
          obtain ⟨y, ey, hy⟩ := Li.sv_some (Ch.up L.name)
          have cU := fun W => up_sv e2 W (by have := (hsz'.out L hmem).n; omega)
          rw [ey] at cU
          obtain ⟨w6, hw6⟩ : ∃ w6, wr.alloc (.cells #[.string a1, .string a2, .slice pA pn pc, .string a4] 41) = w6 := ⟨_, rfl⟩
          have hb6 : Below wr.heap.size wr w6 := by rw [← hw6]; exact (Below.refl _ _).alloc (Nat.le_refl _) _
          have hk6 : w6.heap[wr.heap.size]? = some (.cells #[.string a1, .string a2, .slice pA pn pc, .string a4] 41 (0, 0)) := by rw [← hw6]; exact heap_alloc_new wr _
          obtain ⟨q0, q1, q2, q3, _, _, _, _⟩ := Li.res4 hk6
          have hsn := noFN_snoc Ls k L hl
          have hd := Lib.hid (And.intro hsn (And.intro hy (And.intro e1 (And.intro e2 e4))))
          have hP' := Lib.hid (hP.kept hB4'.out)
          have hb6' := Lib.hid hb6
          have hk6' := Lib.hid hk6
          clear hle hl hmem e1 e2 e4 hP hb6 hk6 hsn hy ey
          go_wp2_with fail
          go_at_call 22
          with_reducible refine (cU _).mono ?_
          rintro e w7 ⟨rfl, hb7⟩
          have hbr7 := belowThen hb6'.out hb7
          have hk7 := Li.blk_below hb7 hk6'.out
          have hkd7 := Li.blk_below hbr7 hkd.out
          have hm7 := hmx.out.kept hbr7
          have hw7 := belowThen hbw.out hbr7
          have sz7 : db + 1 ≤ w7.heap.size := Nat.le_trans hsz hbr7.size
          obtain ⟨p0, p1, p2, p3, _, _, _, _⟩ := Li.res4 hk7
          obtain ⟨vA, vc, rfl⟩ := hm7.form
          have d7 : w7.cell? ⟨db, 0, none⟩ = some (.slice vA (noFN (Ls.take k)).length vc) := by rw [Lib.cell_of_heap hkd7]; rfl
          clear cU q0 q1 q2 q3 g0 g1 g2 g3 hb7 hk6' hb6'
          by_cases hfn : y.toList = [70, 78]
          · have hup : Ch.up L.name = kFN := by rw [← hd.out.2.1, ← Lib.toList_data]; exact hfn
            have hR := Lib.hid (And.intro hkd7 (And.intro hm7 hw7))
            clear hk7 hkd7 hm7 hw7 hbr7 hkd hmx hbw
            go_wp2_with fail
            go_roundw
            case rel => exact ⟨k + 1, _, by go_num, by omega, sz7, Lib.hid hR.out.1, Lib.hid (by rw [hd.out.1, if_pos hup]; exact hR.out.2.1), Lib.hid hR.out.2.2⟩
            case measure => simp [RowKit.intOf]; omega
          · have hfb : (y.toList == [70, 78]) = false := beq_eq_false_iff_ne.2 hfn
            have hup : Ch.up L.name ≠ kFN := fun e => hfn (by rw [Lib.toList_data, hd.out.2.1]; exact e)
            obtain ⟨w8, hw8⟩ : ∃ w8, w7.alloc (.cells #[.string a1, .string a2, .slice pA pn pc, .string a4] 41) = w8 := ⟨_, rfl⟩
            have hb8 : Below w7.heap.size w7 w8 := by rw [← hw8]; exact (Below.refl _ _).alloc (Nat.le_refl _) _
            have hk8 : w8.heap[w7.heap.size]? = some (.cells #[.string a1, .string a2, .slice pA pn pc, .string a4] 41 (0, 0)) := by rw [← hw8]; exact heap_alloc_new w7 _
            have hm8 := hm7.kept hb8
            have hkd8 := Li.blk_below hb8 hkd7
            have hc8 : ∀ t x, (lcells [L] [.slice pA pn pc])[t]? = some x → w8.cell? ⟨w7.heap.size, 0 + t, none⟩ = some x := by
              have e : lcells [L] [.slice pA pn pc] = [.string a1, .string a2, .slice pA pn pc, .string a4] := by
                rw [← hd.out.2.2.1, ← hd.out.2.2.2.1, ← hd.out.2.2.2.2]; rfl
              rw [e]; exact one_cells hk8
            have hP8 : ∀ (j : Nat) (M : LD) (u : Value), [L][j]? = some M → [Value.slice pA pn pc][j]? = some u → PrmsAt w4 u M.params := fun j M u hj hu => by
              match j, hj, hu with
              | 0, hj, hu => simp at hj hu; subst hj; subst hu; exact hP'.out
            have hfl : (noFN (Ls.take k)).length ≤ 4194304 := by
              have h1 := List.length_filter_le (fun L => decide (Ch.up L.name ≠ kFN)) (Ls.take k)
              have h2 : (Ls.take k).length ≤ k := by rw [List.length_take]; omega
              unfold noFN; omega
            have sz8 : db + 1 ≤ w8.heap.size := Nat.le_trans sz7 hb8.size
            have hw8' := Lib.hid (belowThen hw7 hb8)
            have hm8' := Lib.hid hm8
            have hkd8' := Lib.hid hkd8
            have hc8' := Lib.hid hc8
            have hP8' := Lib.hid hP8
            clear hb8 hk8 hm8 hkd8 hc8 hP8 hk7 hkd7 hm7 hw7 hbr7 hkd hmx hbw
            go_wp2_with (at_builtin; refine mix_append rfl _ _ rfl (db + 1) _ (noFN (Ls.take k)) w4 rfl hm8'.out (some ⟨w7.heap.size, 0, none⟩) w7.heap.size 0 1 1 [L] [.slice pA pn pc] rfl rfl rfl (fun _ => rfl) hc8'.out hP8'.out (by omega) sz8 ?_)
            intro v9 w9 hm9 hleft
            have hk9 : w9.heap[db]? = some (.cells #[.slice vA (noFN (Ls.take k)).length vc] 25 (0, 0)) := by
              have h1 : Below (db + 1) w8 w9 := hleft (db + 1) w8 ⟨rfl, rfl, rfl, Nat.le_refl _, fun _ _ => rfl⟩ (Nat.le_refl _) sz8
              exact (h1.block _ (by omega)).trans hkd8'.out
            have hw9 := hleft _ _ hw8'.out (by omega) (by omega)
            have sz9 : db + 1 ≤ w9.heap.size := by
              have h1 : Below (db + 1) w8 w9 := hleft (db + 1) w8 ⟨rfl, rfl, rfl, Nat.le_refl _, fun _ _ => rfl⟩ (Nat.le_refl _) sz8
              exact Nat.le_trans sz8 h1.size
            have d9 : w9.cell? ⟨db, 0, none⟩ = some (.slice vA (noFN (Ls.take k)).length vc) := by rw [Lib.cell_of_heap hk9]; rfl
            have f9 : w9.frozen? ⟨db, 0, none⟩ = false := Lib.frozen_of_heap hk9 0
            obtain ⟨uA, uc, rfl⟩ := hm9.form
            obtain ⟨vl, hvl⟩ : ∃ vl, (noFN (Ls.take k) ++ [L]).length = vl := ⟨_, rfl⟩
            rw [hvl] at hm9 ⊢
            have hR : Hid ((w9.setCell ⟨db, 0, none⟩ (.slice uA vl uc)).heap[db]? = some (.cells #[.slice uA vl uc] 25 (0, 0)) ∧ Mix (db + 1) (.slice uA vl uc) (noFN (Ls.take k) ++ [L]) w4 (w9.setCell ⟨db, 0, none⟩ (.slice uA vl uc)) ∧ Below w4.heap.size w4 (w9.setCell ⟨db, 0, none⟩ (.slice uA vl uc))) := by
              refine Lib.hid ⟨?_, hm9.stored (by show db < db + 1; omega) (by show _ ≤ db; omega) _, hw9.setCell (p := ⟨db, 0, none⟩) (by show _ ≤ db; omega) _⟩
              simp [World.setCell, Array.getElem?_modify, hk9]
            clear hleft hm9 hk9 hw9 hw8' hm8' hkd8' hc8' hP8'
            go_wp2
            go_roundw
            case rel => exact ⟨k + 1, _, by go_num, by omega, by simpa [World.setCell] using sz9, Lib.hid hR.out.1, Lib.hid (by rw [hd.out.1, if_neg hup]; exact hR.out.2.1), Lib.hid hR.out.2.2⟩
            case measure => simp [RowKit.intOf]; omega
        · have ek : k = n := by omega
          have htk : Ls.take k = Ls := List.take_of_length_le (by have := hn'.out; omega)
          have hmx2 := hmx.out
          rw [htk] at hmx2
          have hmx' := Lib.hid hmx2
          obtain ⟨r, hr, hr5⟩ := mod_of z 5 (by omega) (by omega)
          clear hmx hmx2 ek htk
          go_upto_region 12 with fail
          go_cut [8] from 41 to 46 (fun s8 wx => s8 = sv (once5.getD r ([], [])).1 ∧ Below wr.heap.size wr wx)
          case first =>
            have hcs : r = 0 ∨ r = 1 ∨ r = 2 ∨ r = 3 ∨ r = 4 := by omega
            rcases hcs with rfl | rfl | rfl | rfl | rfl
            all_goals
              go_wp2_with fail
              go_meet
            all_goals exact ⟨rfl, (Below.refl _ _).alloc (Nat.le_refl _) _⟩
          case rest =>
            obtain ⟨rfl, hb12⟩ := hcut
            obtain ⟨wt, rfl⟩ : ∃ wt, wt = wc := ⟨_, rfl⟩
            go_upto_region 13 with fail
            go_cut [9] from 47 to 52 (fun s9 wx => s9 = sv (once5.getD r ([], [])).2 ∧ Below wt.heap.size wt wx)
            case first =>
              have hcs : r = 0 ∨ r = 1 ∨ r = 2 ∨ r = 3 ∨ r = 4 := by omega
              rcases hcs with rfl | rfl | rfl | rfl | rfl
              all_goals
                go_wp2_with fail
                go_meet
              all_goals exact ⟨rfl, (Below.refl _ _).alloc (Nat.le_refl _) _⟩
            case rest =>
              obtain ⟨rfl, hb13⟩ := hcut
              have hp5 : once5.getD r ([], []) ∈ once5 := by
                have hcs : r = 0 ∨ r = 1 ∨ r = 2 ∨ r = 3 ∨ r = 4 := by omega
                rcases hcs with rfl | rfl | rfl | rfl | rfl <;> decide
              obtain ⟨p, hpe⟩ : ∃ p, once5.getD r ([], []) = p := ⟨_, rfl⟩
              rw [hpe] at hp5 ⊢
              clear hpe hr hr5
              obtain ⟨wd, rfl⟩ : ∃ wd, wd = wc := ⟨_, rfl⟩
              obtain ⟨y8, e8, h8⟩ := Li.sv_some p.1
              obtain ⟨y9, e9, h9⟩ := Li.sv_some p.2
              rw [e8, e9]
              have hbd := belowThen hb12 hb13
              have hB4d := belowThen hbw.out hbd
              have hBd := belowThen hB4'.out hB4d
              have hkdd := Li.blk_below hbd hkd.out
              have hmd := hmx'.out.kept hbd
              have hboxd : wd.cell? ⟨w.heap.size, 0, none⟩ = some (.slice A n c) := (hB4d.cell (p := ⟨w.heap.size, 0, none⟩) hz4).trans hbox4'.out
              have hzd : w.heap.size < wd.heap.size := Nat.lt_of_lt_of_le hz4 hB4d.size
              obtain ⟨w5', hw5'⟩ : ∃ w5, wd.alloc (.cells #[] 41) = w5 := ⟨_, rfl⟩
              have hm5 : Mix wd.heap.size (.slice (some ⟨wd.heap.size, 0, none⟩) 0 0) [] wd w5' := by rw [← hw5']; exact Mix.made (Below.refl _ _) (Nat.le_refl _) (Nat.le_refl _)
              have hbc5 : Below wd.heap.size wd w5' := by rw [← hw5']; exact (Below.refl _ _).alloc (Nat.le_refl _) _
              have hbox6 : w5'.cell? ⟨w.heap.size, 0, none⟩ = some (.slice A n c) := (hbc5.cell (p := ⟨w.heap.size, 0, none⟩) hzd).trans hboxd
              have hA5 : 0 < n → A = some ⟨b, off, none⟩ := fun h0 => (hA'.out h0).1
              have hc5 : ∀ t x, (lcells Ls us)[t]? = some x → w5'.cell? ⟨b, off + t, none⟩ = some x := fun t x hx => by
                have hlt : 0 < n := by
                  rcases Nat.eq_zero_or_pos n with h0 | h0
                  · have e1 : Ls = [] := List.eq_nil_of_length_eq_zero (hn'.out.trans h0)
                    have e2 : us = [] := List.eq_nil_of_length_eq_zero (by rw [hul, hn'.out, h0])
                    rw [e1, e2] at hx; simp [lcells] at hx
                  · exact h0
                exact ((belowThen hBd hbc5).cell (p := ⟨b, off + t, none⟩) (hA'.out hlt).2).trans (hcell'.out t x hx)
              have hP5 : ∀ (j : Nat) (L : LD) (u : Value), Ls[j]? = some L → us[j]? = some u → PrmsAt wd u L.params := fun j L u hj hu => (hpr'.out j L u hj hu).kept hBd
              have hm5' := Lib.hid hm5
              have hc5' := Lib.hid hc5
              have hP5' := Lib.hid hP5
              have hA5' := Lib.hid hA5
              have hBd' := Lib.hid hBd
              have hbc5' := Lib.hid hbc5
              have hkdd' := Lib.hid hkdd
              have hmd' := Lib.hid hmd
              have hboxd' := Lib.hid hboxd
              have sz5 := hbc5.size
              have hpv := Lib.hid (And.intro e8 e9)
              clear hm5 hc5 hP5 hA5 hBd hbc5 hkdd hmd hboxd hbd hb12 hb13 hB4d hmx' hkd hbw e8 e9 h8 h9
              go_wp2_with (at_builtin; refine mix_append rfl _ _ rfl wd.heap.size _ [] wd rfl hm5'.out A b off n c Ls us rfl hn'.out (by rw [hul]; exact hn'.out) hA5'.out hc5'.out hP5'.out (by simp; omega) sz5 ?_)
              intro v6 w6 hm6 hleft
              have hm6 : Mix wd.heap.size v6 Ls wd w6 := hm6
              have hb6 : Below wd.heap.size wd w6 := hleft _ _ hbc5'.out (Nat.le_refl _) sz5
              obtain ⟨w7, hw7⟩ : ∃ w7, w6.alloc (.cells #[.string ⟨#[]⟩, .string y8, .slice none 0 0, .string y9, .string ⟨#[]⟩, .string y8, .slice none 0 0, .string y9] 41) = w7 := ⟨_, rfl⟩
              have hb67 : Below w6.heap.size w6 w7 := by rw [← hw7]; exact (Below.refl _ _).alloc (Nat.le_refl _) _
              have hk7 : w7.heap[w6.heap.size]? = some (.cells #[.string ⟨#[]⟩, .string y8, .slice none 0 0, .string y9, .string ⟨#[]⟩, .string y8, .slice none 0 0, .string y9] 41 (0, 0)) := by rw [← hw7]; exact heap_alloc_new w6 _
              have hc7 : ∀ t x, (lcells [bare p.1 p.2, bare p.1 p.2] [.slice none 0 0, .slice none 0 0])[t]? = some x → w7.cell? ⟨w6.heap.size, 0 + t, none⟩ = some x := by
                have e : lcells [bare p.1 p.2, bare p.1 p.2] [.slice none 0 0, .slice none 0 0] = [.string ⟨#[]⟩, .string y8, .slice none 0 0, .string y9, .string ⟨#[]⟩, .string y8, .slice none 0 0, .string y9] := by
                  rw [← hpv.out.1, ← hpv.out.2]; rfl
                rw [e]; exact two_cells hk7
              have hP7 : ∀ (j : Nat) (M : LD) (u : Value), [bare p.1 p.2, bare p.1 p.2][j]? = some M → [Value.slice none 0 0, Value.slice none 0 0][j]? = some u → PrmsAt wd u M.params := fun j M u hj hu => by
                match j, hj, hu with
                | 0, hj, hu => simp at hj hu; subst hj; subst hu; exact prms_nil _
                | 1, hj, hu => simp at hj hu; subst hj; subst hu; exact prms_nil _
              have hm7 := hm6.kept hb67
              have hb7 := belowThen hb6 hb67
              have sz7 := hb7.size
              obtain ⟨vA, vc, rfl⟩ := hm6.form
              rw [hn'.out] at hm7 ⊢
              have hm7' := Lib.hid hm7
              have hc7' := Lib.hid hc7
              have hP7' := Lib.hid hP7
              have hb7' := Lib.hid hb7
              clear hk7 hc7 hP7 hm7 hb7 hm6 hb6 hb67 hleft hm5' hc5' hbc5' hw5'
              go_wp2_with (at_builtin; refine mix_append rfl _ _ rfl wd.heap.size _ Ls wd rfl hm7'.out (some ⟨w6.heap.size, 0, none⟩) w6.heap.size 0 2 2 [bare p.1 p.2, bare p.1 p.2] [.slice none 0 0, .slice none 0 0] rfl rfl rfl (fun _ => rfl) hc7'.out hP7'.out (by rw [hn'.out]; omega) sz7 ?_)
              intro v8 w8 hm8 hleft8
              have hb8 : Below wd.heap.size wd w8 := hleft8 _ _ hb7'.out (Nat.le_refl _) sz7
              obtain ⟨uA, uc, rfl⟩ := hm8.form
              have hl8 : (Ls ++ [bare p.1 p.2, bare p.1 p.2]).length = n + 2 := by rw [List.length_append, hn'.out]; rfl
              rw [hl8] at hm8 ⊢
              obtain ⟨da, hda⟩ : ∃ da, w8.heap.size = da := ⟨_, rfl⟩
              obtain ⟨w9, hw9⟩ : ∃ w9, w8.alloc (.cells #[.slice uA (n + 2) uc] 25) = w9 := ⟨_, rfl⟩
              have hb89 : Below w8.heap.size w8 w9 := by rw [← hw9]; exact (Below.refl _ _).alloc (Nat.le_refl _) _
              have hk9 : w9.heap[da]? = some (.cells #[.slice uA (n + 2) uc] 25 (0, 0)) := by rw [← hw9, ← hda]; exact heap_alloc_new w8 _
              have hm9' := Lib.hid (hm8.kept hb89)
              have hb9' := Lib.hid (belowThen hb8 hb89)
              have hk9' := Lib.hid hk9
              clear hm8 hleft8 hb8 hl8 hb89 hk9 hm7' hc7' hP7' hb7' hw7
              have hn0 : 0 < n := by
                have h1 := (checkE_zero.1 hce'.out).2
                have h2 := right_ne h1
                rcases Nat.eq_zero_or_pos n with h0 | h0
                · exact absurd (List.eq_nil_of_length_eq_zero (hn'.out.trans h0)) h2
                · exact h0
              have hz9 : w.heap.size < w9.heap.size := by have := (hb9'.out).size; omega
              have hbox9 := (hb9'.out.cell (p := ⟨w.heap.size, 0, none⟩) hzd).trans hboxd'.out
              obtain ⟨hAe, hbz⟩ := hA'.out hn0
              subst hAe
              have hB9 := belowThen hBd'.out hb9'.out
              have hc9 : ∀ t x, (lcells Ls us)[t]? = some x → w9.cell? ⟨b, off + t, none⟩ = some x := fun t x hx => (hB9.cell (p := ⟨b, off + t, none⟩) hbz).trans (hcell'.out t x hx)
              have hP9 : ∀ (j : Nat) (L : LD) (u : Value), Ls[j]? = some L → us[j]? = some u → PrmsAt w9 u L.params := fun j L u hj hu => (hpr'.out j L u hj hu).kept hB9
              have hb9z : b < w9.heap.size := Nat.lt_of_lt_of_le hbz hB9.size
              obtain ⟨r, hr, hr3⟩ := mod_of z 3 (by omega) (by omega)
              have hr3' : r < 3 := by omega
              have hc9' := Lib.hid hc9
              have hP9' := Lib.hid hP9
              have hB9' := Lib.hid hB9
              clear hc9 hP9 hB9
              go_upto_region 15 with fail
              go_cut [11] from 66 to 79 (fun s11 wx => ∃ (g : Nat) (rv : Value), s11 = .pointer (some ⟨g, 0, none⟩) ∧ Below w9.heap.size w9 wx ∧ wx.heap[g]? = some (.cells #[rv] 25 (0, 0)) ∧ Mix w9.heap.size rv (Ls ++ [bare (bad3.getD r []) v40]) w9 wx)
              case first =>
                rename_i J K' hJ hK'
                refine Rg.region_inv (by kernel_rfl) slots15 (by decide) (by kernel_rfl) (I15 (bad3.getD r []) w.heap.size b off n c z r Ls w9) ?_ ?_ ?_
                · exact ⟨0, 0, 0, .slice none 0 0, N15.start (belowDrewN 1 (Below.refl _ _))⟩
                · exact ⟨st0 rfl rfl rfl (by show 80 ≤ 93; omega), st1 rfl rfl rfl (by show 80 ≤ 93; omega) rfl, st2 rfl rfl rfl (by show 80 ≤ 93; omega) hbox9 hz9 (by decide),
                    st3 rfl rfl rfl (by show 80 ≤ 93; omega) us hn'.out hn0 (by rw [hul]; exact hn'.out) (by omega) hb9z hc9'.out hP9'.out (by decide) (by decide), st4 rfl rfl rfl (by show 80 ≤ 93; omega), st5 rfl rfl rfl (by show 80 ≤ 93; omega) rfl,
                    st6 rfl rfl rfl (by show 80 ≤ 93; omega) (by decide), st7 rfl rfl rfl (by show 80 ≤ 93; omega) hr (by decide), st8 rfl rfl rfl (by show 80 ≤ 93; omega) hr3 (by decide) (by decide), st9 rfl rfl rfl (by show 80 ≤ 93; omega) rfl hr3' (by decide),
                    st10 rfl rfl rfl (by show 80 ≤ 93; omega) (by decide), st11 rfl rfl rfl (by show 80 ≤ 93; omega) (by decide), st12 rfl rfl rfl (by show 80 ≤ 93; omega) hn'.out (by omega) (by decide) (by decide), st13 rfl rfl rfl (by show 80 ≤ 93; omega) (by decide),
                    st14 rfl rfl rfl (by show 80 ≤ 93; omega), st15 rfl rfl rfl (by show 80 ≤ 93; omega) (by decide) (by decide), trivial⟩
                · rintro d u W ⟨g70, g77, g11, rv, h⟩ hall
                  obtain ⟨q1, q2, q3, q4⟩ := h.f14 (hall 14 (by show 14 < 16; omega))
                  rw [hall 15 (by show 15 < 16; omega)] at q3
                  have q5 := (h.f12 (hall 12 (by show 12 < 16; omega))).2
                  have hbel := h.bel
                  clear h hall
                  show K' _ _
                  refine hK' _ _ (Met.intro (hJ _ _ ?_))
                  unfold Rg.puts slots15
                  simp only [List.foldl_cons, List.foldl_nil, Act.put, List.setIfInBounds_toArray, List.set_cons_succ, List.set_cons_zero]
                  repeat apply Exists.intro
                  refine ⟨?rel, rfl⟩
                  exact ⟨g11, rv, q1, hbel, q3, q5⟩
              case rest =>
                obtain ⟨g, rv, rfl, hb15, hkg, hmg⟩ := hcut
                have hbD : Below wd.heap.size wd wc := belowThen hb9'.out hb15
                have hBc := belowThen hB9'.out hb15
                have kN := Li.blk_below hbD hkdd'.out
                have kT := Li.blk_below hb15 hk9'.out
                have lN := (hmd'.out.kept hbD).at
                have lT := (hm9'.out.kept hb15).at
                have lB := hmg.at
                obtain ⟨zA, zc, rfl⟩ := hmg.form
                obtain ⟨zl, hzl⟩ : ∃ zl, (Ls ++ [bare (bad3.getD r []) v40]).length = zl := ⟨_, rfl⟩
                rw [hzl] at lB hkg
                clear hmg hzl
                obtain ⟨nA, nc, rfl⟩ := hmd'.out.form
                have hq : bad3.getD r [] ∈ bad3 := by
                  have hcs : r = 0 ∨ r = 1 ∨ r = 2 := by omega
                  rcases hcs with rfl | rfl | rfl <;> decide
                obtain ⟨q, hqe⟩ : ∃ q, bad3.getD r [] = q := ⟨_, rfl⟩
                rw [hqe] at hq lB
                have cN := cP'.out _ (noFN Ls) wc hBc lN (by have := noFN_pr Ls; omega)
                rw [noFN_wrong hce'.out] at cN
                have cT := fun W (hW : Below wc.heap.size wc W) => cP'.out _ _ W (belowThen hBc hW) (lT.kept hW) (by have := prsum_two Ls hp5; omega)
                rw [once_wrong hce'.out hp5] at cT
                have cB := fun W (hW : Below wc.heap.size wc W) => cP'.out _ _ W (belowThen hBc hW) (lB.kept hW) (by have := prsum_bad Ls hq; omega)
                rw [bad_wrong hce'.out hq] at cB
                have dN : wc.cell? ⟨db, 0, none⟩ = some _ := (Lib.cell_of_heap kN 0).trans rfl
                have kT' := Lib.hid kT
                have kB' := Lib.hid hkg
                have hBc' := Lib.hid hBc
                have cT' := Lib.hid cT
                have cB' := Lib.hid cB
                clear kN kT hkg hBc lN lT lB cT cB hb15 hbD hqe
                go_wp2_with fail
                go_at_call 19
                with_reducible refine cN.mono ?_
                rintro e x1 ⟨rfl, hx1⟩
                have kT2 := Li.blk_below hx1 kT'.out
                have dT : x1.cell? ⟨da, 0, none⟩ = some _ := (Lib.cell_of_heap kT2 0).trans rfl
                have cT1 := cT'.out x1 hx1
                have hx1' := Lib.hid hx1
                clear cN dN kT2 hx1
                go_wp2_with fail
                go_at_call 19
                with_reducible refine cT1.mono ?_
                rintro e x2 ⟨rfl, hx2⟩
                have hx12 := belowThen hx1'.out hx2
                have kB2 := Li.blk_below hx12 kB'.out
                have dB : x2.cell? ⟨g, 0, none⟩ = some _ := (Lib.cell_of_heap kB2 0).trans rfl
                have cB1 := cB'.out x2 hx12
                have hx12' := Lib.hid hx12
                clear cT1 dT kB2 hx2 hx12
                go_wp2_with fail
                go_at_call 19
                with_reducible refine cB1.mono ?_
                rintro e x3 ⟨rfl, hx3⟩
                have hfin := Lib.hid (belowThen (belowThen hBc'.out hx12'.out) hx3)
                clear cB1 dB hx3
                go_wp2
                go_ret
                exact ⟨rfl, hfin.out⟩
    · have hm2 : ¬ ((ce : Int) = 0) := by omega
      go_wp2
      go_ret
      exact ⟨rfl, hB4'.out⟩
end Go.Proofs.YthnnpnlapjlnoaaGreatDoor.Ca
