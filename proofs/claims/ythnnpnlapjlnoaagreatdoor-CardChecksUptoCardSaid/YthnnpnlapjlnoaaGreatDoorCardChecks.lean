/-
  THE WALK OF THE LAW CardChecks.
-/
import Derived.Test.YthnnpnlapjlnoaaGreatDoorCardRegP
import Derived.Test.YthnnpnlapjlnoaaGreatDoorCardRefLines
import Derived.Test.YthnnpnlapjlnoaaGreatDoorCardSpoil
import Derived.Test.YthnnpnlapjlnoaaGreatDoorCardSame5
import Derived.Test.YthnnpnlapjlnoaaGreatDoorMgC
set_option linter.unusedVariables false
namespace Go.Proofs.YthnnpnlapjlnoaaGreatDoor.Ca
open Go.Lib Go.RowKit
open Li (LD PD sv POwn LOwn LineAt PrmsAt chk pr)

theorem body_sum (Ls : List LD) : (body Ls Ls.length).length ≤ 4 * prsum Ls := by
  unfold body prsum
  rw [List.take_length]
  induction Ls with
  | nil => simp
  | cons L Ls ih =>
    have h1 : (Fo.foldL (pr L)).length ≤ 4 * (pr L).length := Fo.foldF_len _ _ 75 (by omega)
    simp only [List.flatMap_cons, List.length_append, List.map_cons, List.sum_cons]
    omega
/-- the text of the canonical lines -/
theorem textC_any (u : Value) (Ls : List LD) (w : World) (h : LinesAt w u (canC Ls)) (hS : prsum Ls ≤ 67108864) (hc : checkE Ls = 0) :
    Calls Tryz.prog 15 #[u] w fun e w' => (∃ x : ByteArray, x.data.toList = cardT (canC Ls) ∧ e = .returned (.string x)) ∧ Below w.heap.size w w' := by
  have h1 := prsum_canC hc
  have h2 := (checkE_zero.1 (canC_check hc)).1
  exact text_any u (canC Ls) w h (fun L hL p hp => ((Li.good_chk (h2 L hL)).params p hp).2.1) (fun L hL => by have := prsum_mem hL; omega) (by have := body_sum (canC Ls); omega)
theorem data_is {x y : ByteArray} (h : x.data.toList = y.data.toList) : x = y := by
  cases x; cases y
  simp only [Array.toList_inj] at h
  rw [h]

set_option maxHeartbeats 4000000 in
set_option maxRecDepth 100000 in
theorem checks_walk (v : Value) (Ls : List LD) (w : World) (h : LinesAt w v Ls) (hS : prsum Ls ≤ 4194304) (hT : Ch.Tabs w) :
    Calls Tryz.prog 4 #[.agg #[v]] w fun e w' => e = .returned (.bool true) ∧ Below w.heap.size w w' := by
  obtain ⟨n, hn⟩ : ∃ n, Ls.length = n := ⟨_, rfl⟩
  have hnl : n ≤ 4194304 := by have := prsum_len Ls; omega
  have hsz : ∀ L ∈ Ls, Li.SzL 4194304 L := fun L hL => Li.sz_pr (N := 4194304) (by have := prsum_mem hL; omega)
  have cF := fun W (hW : Below w.heap.size w W) => first_any W (Ch.tabs_below hT hW)
  have cS := fun W (hW : Below w.heap.size w W) => small_any v Ls W (h.kept hW) (by omega) (fun L hL => ⟨by have := (hsz L hL).k; omega, fun p hp => by have := (hsz L hL).pk p hp; omega⟩)
  obtain ⟨A, b, off, c, us, rfl, hul, hA, hcell, hpr⟩ := h.src
  have cLn := fun W (hW : Below w.heap.size w W) => lines_any (.slice A Ls.length c) Ls W (h.kept hW) (by omega)
  have cCn := fun (ov : Value) W (hW : Below w.heap.size w W) (ho : LinesAt W ov Ls) => canon_any ov Ls W ho (by omega) (Ch.tabs_below hT hW)
  have cPr := fun (ov : Value) W (hW : Below w.heap.size w W) (ho : LinesAt W ov Ls) => print_any ov Ls W ho (by omega) (Ch.tabs_below hT hW)
  have cCk := fun (ov : Value) W (hW : Below w.heap.size w W) (ho : LinesAt W ov Ls) => check_any ov Ls W ho (smallC_of (by omega)) (Ch.tabs_below hT hW)
  rw [hn] at hA h cS cLn ⊢
  have hL := fun W (hW : Below w.heap.size w W) => h.kept hW
  obtain ⟨w1, hw1⟩ : ∃ w1, w.alloc (.cells #[.slice A n c] 25) = w1 := ⟨_, rfl⟩
  have hB1 : Below w.heap.size w w1 := by rw [← hw1]; exact (Below.refl _ _).alloc (Nat.le_refl _) _
  have hbox : w1.cell? ⟨w.heap.size, 0, none⟩ = some (.slice A n c) := by rw [← hw1]; simp
  have hz1 : w.heap.size < w1.heap.size := by rw [← hw1]; simp
  go_enter Tryz.func4, Tryz.ntmps4
  go_wp2_with fail
  go_at_call 9
  with_reducible refine (cF w1 hB1).mono ?_
  rintro e w2 ⟨rfl, hb2⟩
  have hB2 := belowThen hB1 hb2
  have hbox2 : w2.cell? ⟨w.heap.size, 0, none⟩ = some (.slice A n c) := (hb2.cell (p := ⟨w.heap.size, 0, none⟩) hz1).trans hbox
  have hz2 : w.heap.size < w2.heap.size := Nat.lt_of_lt_of_le hz1 hb2.size
  have cF' := Lib.hid cF
  have hL' := Lib.hid hL
  have hpr' := Lib.hid hpr
  have hcell' := Lib.hid hcell
  have hA' := Lib.hid hA
  have hsz' := Lib.hid hsz
  have hn' := Lib.hid hn
  have cLn' := Lib.hid cLn
  have cCn' := Lib.hid cCn
  have cPr' := Lib.hid cPr
  have cCk' := Lib.hid cCk
  have cS2 := cS w2 hB2
  clear cF hL hpr hcell hA hT hsz hn cS hb2 hB1 hbox hw1 h cLn cCn cPr cCk
  go_wp2_with fail
  go_at_call 16
  with_reducible refine cS2.mono ?_
  rintro e w3 ⟨⟨bb, rfl⟩, hb3⟩
  have hB3 := belowThen hB2 hb3
  have hbox3 : w3.cell? ⟨w.heap.size, 0, none⟩ = some (.slice A n c) := (hb3.cell (p := ⟨w.heap.size, 0, none⟩) hz2).trans hbox2
  have hz3 : w.heap.size < w3.heap.size := Nat.lt_of_lt_of_le hz2 hb3.size
  clear hb3 hbox2 hz2 hB2 cS2 hz1
  cases bb with
  | false =>
    have c3 := cF'.out w3 hB3
    go_wp2_with fail
    go_at_call 9
    with_reducible refine c3.mono ?_
    rintro e w4 ⟨rfl, hb4⟩
    go_wp2
    go_ret
    exact ⟨rfl, belowThen hB3 hb4⟩
  | true =>
    have hB3' := Lib.hid hB3
    obtain ⟨w5, hw5⟩ : ∃ w5, w3.alloc (.cells #[.slice none 0 0] 25) = w5 := ⟨_, rfl⟩
    have hb35 : Below w3.heap.size w3 w5 := by rw [← hw5]; exact (Below.refl _ _).alloc (Nat.le_refl _) _
    have hk5 : w5.heap[w3.heap.size]? = some (.cells #[.slice none 0 0] 25 (0, 0)) := by rw [← hw5]; exact heap_alloc_new w3 _
    have hsz5 : w5.heap.size = w3.heap.size + 1 := by rw [← hw5]; simp
    have hbox5 : w5.cell? ⟨w.heap.size, 0, none⟩ = some (.slice A n c) := (hb35.cell (p := ⟨w.heap.size, 0, none⟩) hz3).trans hbox3
    obtain ⟨db, hdb⟩ : ∃ db, w3.heap.size = db := ⟨_, rfl⟩
    rw [hdb] at hk5 hsz5
    have hl5 : LsOwn (db + 1) (.slice none 0 0) (Ls.take 0) w5 := LsOwn.nil _ _
    have hk5' := Lib.hid hk5
    have hb35' := Lib.hid hb35
    have hl5' := Lib.hid hl5
    have hbox3' := Lib.hid hbox3
    clear hk5 hb35 hl5 hbox3 hB3
    go_wp2_with fail
    try rw [hw5]
    try rw [hdb]
    go_loopw [25] (fun s25 wr => ∃ (k : Nat) (ov : Value), s25 = .int .i64 (k : Int) ∧ k ≤ n ∧ Hid (wr.heap[db]? = some (.cells #[ov] 25 (0, 0))) ∧ Hid (LsOwn (db + 1) ov (Ls.take k) wr) ∧ Hid (Below w3.heap.size w3 wr)) (fun s25 wr => n - (RowKit.intOf s25).toNat)
    case atStart => exact ⟨0, _, rfl, Nat.zero_le _, hk5', hl5', hb35'⟩
    case round =>
      clear hk5' hb35' hbox5 hl5'
      obtain ⟨k, ov, rfl, hk, hkd, hown, hbw⟩ := hrel
      by_cases hlt : k < n
      · have hl : Ls[k]? = some (Ls[k]'(by have := hn'.out; omega)) := List.getElem?_eq_getElem _
        obtain ⟨L, hle⟩ : ∃ L, Ls[k]'(by have := hn'.out; omega) = L := ⟨_, rfl⟩
        have hmem : L ∈ Ls := by rw [← hle]; exact List.getElem_mem _
        rw [hle] at hl
        have htk : Ls.take (k + 1) = Ls.take k ++ [L] := by rw [List.take_succ_eq_append_getElem (List.getElem?_eq_some_iff.1 hl).1, (List.getElem?_eq_some_iff.1 hl).2]
        obtain ⟨rfl, hbz⟩ := hA'.out (by omega)
        obtain ⟨a1, a2, a4, pA, pn, pc, e1, e2, e4, hP, g0, g1, g2, g3⟩ := line_src hul hcell'.out hpr'.out hbz (belowThen hB3'.out hbw.out) hl
        have hzL := hsz'.out L hmem
        have cC : ∀ W, Below w3.heap.size w3 W → Calls Tryz.prog 17 #[.agg #[.string a1, .string a2, .slice pA pn pc, .string a4]] W fun e w' => (∃ qv, e = .returned (.agg #[.string a1, .string a2, qv, .string a4]) ∧ POwn W.heap.size qv L.params w') ∧ Below W.heap.size W w' := fun W hW =>
          (Li.refCopy_any _ L W ⟨.slice pA pn pc, by rw [e1, e2, e4], hP.kept (belowThen hB3'.out hW)⟩ (by have := hzL.k; omega) (fun p hp => by have := hzL.pk p hp; omega)).mono fun e w' ⟨⟨u, he, qv, hu, hq⟩, hb⟩ => ⟨⟨qv, by rw [he, hu, e1, e2, e4], hq⟩, hb⟩
        obtain ⟨w6, hw6⟩ : ∃ w6, wr.alloc (.cells #[.string a1, .string a2, .slice pA pn pc, .string a4] 41) = w6 := ⟨_, rfl⟩
        have hb6 : Below wr.heap.size wr w6 := by rw [← hw6]; exact (Below.refl _ _).alloc (Nat.le_refl _) _
        have hk6 : w6.heap[wr.heap.size]? = some (.cells #[.string a1, .string a2, .slice pA pn pc, .string a4] 41 (0, 0)) := by rw [← hw6]; exact heap_alloc_new wr _
        obtain ⟨bl, hbl⟩ : ∃ bl, wr.heap.size = bl := ⟨_, rfl⟩
        rw [hbl] at hk6
        have hdbr : db < bl := by rw [← hbl]; exact (Array.getElem?_eq_some_iff.1 hkd.out).1
        have hovlt : ∀ g, ov.ownBlock = some g → g < bl := fun g e => by rw [← hbl]; exact (hown.out.lt e).2
        have hX1 : ∀ W W' : World, W.heap[bl]? = some (.cells #[.string a1, .string a2, .slice pA pn pc, .string a4] 41 (0, 0)) → Below W.heap.size W W' → W'.heap[bl]? = some (.cells #[.string a1, .string a2, .slice pA pn pc, .string a4] 41 (0, 0)) := fun W W' h hb => Li.blk_below hb h
        have hX2 : ∀ W W' : World, W.heap[bl]? = some (.cells #[.string a1, .string a2, .slice pA pn pc, .string a4] 41 (0, 0)) → w6.heap.size ≤ W.heap.size → W.grownBy W' ov.ownBlock → Left W (db + 1) W' → W'.heap[bl]? = some (.cells #[.string a1, .string a2, .slice pA pn pc, .string a4] 41 (0, 0)) := fun W W' h hs hg hlf => Li.blk_grown h hg (fun g e q => by have := hovlt g e; omega)
        have hX3 : ∀ (W : World) v, W.heap[bl]? = some (.cells #[.string a1, .string a2, .slice pA pn pc, .string a4] 41 (0, 0)) → (W.setCell ⟨db, 0, none⟩ v).heap[bl]? = some (.cells #[.string a1, .string a2, .slice pA pn pc, .string a4] 41 (0, 0)) := fun W v h => Li.blk_store h (p := ⟨db, 0, none⟩) (by show bl ≠ db; omega) _
        have hkd6 := Li.blk_below hb6 hkd.out
        have hown6 := hown.out.kept hb6
        have hbw6 := belowThen hbw.out hb6
        have htl : (Ls.take k).length ≤ n := by rw [List.length_take]; omega
        obtain ⟨q0, q1, q2, q3, _, _, _, _⟩ := Li.res4 hk6
        have cC' := Lib.hid cC
        have hk6' := Lib.hid hk6
        have hkd6' := Lib.hid hkd6
        have hown6' := Lib.hid hown6
        have hbw6' := Lib.hid hbw6
        have hX1' := Lib.hid hX1
        have hX2' := Lib.hid hX2
        have hX3' := Lib.hid hX3
        clear hle hmem hP hb6 hk6 hX1 hX2 hX3 hovlt hkd6 hown6 hbw6 cC hl hkd hown hbw
        go_upto_region 7 with fail
        clear g0 g1 g2 g3
        refine Rg.region_inv (by kernel_rfl) RgC.slots8 (by decide) (by kernel_rfl) (RgC.I8 w6 w3 (fun W => W.heap[bl]? = some (.cells #[.string a1, .string a2, .slice pA pn pc, .string a4] 41 (0, 0))) db ov (Ls.take k) L a1 a2 a4 (.slice pA pn pc)) ?_ ?_ ?_
        · have hdr : Below w6.heap.size w6 w6.drew := belowDrewN 1 (Below.refl _ _)
          exact ⟨0, .slice none 0 0, ov, RgC.N8.start (belowThen hbw6'.out hdr) (by omega) hdr.size (hX1'.out _ _ hk6'.out hdr) (hown6'.out.kept hdr) (Li.blk_below hdr hkd6'.out)⟩
        · exact ⟨RgC.st0 rfl rfl rfl rfl, RgC.st1 rfl rfl rfl (by show 35 < 145; omega) (by decide), RgC.st2 rfl rfl rfl bl (fun W h => h) ⟨_, _, _, rfl⟩ rfl, RgC.st3 rfl rfl rfl (by show 35 < 145; omega) (by decide) hX1'.out cC'.out,
            RgC.st4 rfl rfl rfl (by show 35 < 145; omega) (by decide) hX1'.out, RgC.st5 rfl rfl rfl (by show 35 < 145; omega) (by decide) (by decide) e1 e2 e4 (by omega) hX2'.out, RgC.st6 rfl rfl rfl rfl, RgC.st7 rfl rfl rfl (by show 35 < 145; omega) (by decide) (by decide) hX3'.out, trivial⟩
        · rintro d u W ⟨g32, qv, rv, h⟩ hall
          have r1 := h.row
          have r2 := h.box
          rw [hall 5 (by show 5 < 8; omega)] at r1
          rw [hall 7 (by show 7 < 8; omega)] at r2
          have hown := Lib.hid r1
          have hkd := Lib.hid r2
          have hbw := Lib.hid h.bel
          clear h hall r1 r2 q0 q1 q2 q3
          unfold Rg.puts RgC.slots8
          simp only [List.foldl_cons, List.foldl_nil, Act.put, List.setIfInBounds_toArray, List.set_cons_succ, List.set_cons_zero]
          go_wp2
          go_roundw
          case rel => exact ⟨k + 1, rv, by go_num, by omega, hkd, Lib.hid (by rw [htk]; exact hown.out), hbw⟩
          case measure => simp [RowKit.intOf]; omega
      · have ek : k = n := by omega
        have htk : Ls.take k = Ls := List.take_of_length_le (by have := hn'.out; omega)
        have hown1 := hown.out
        rw [htk] at hown1
        have d0 : wr.cell? ⟨db, 0, none⟩ = some ov := (Lib.cell_of_heap hkd.out 0).trans rfl
        have dC : wr.cell? ⟨w.heap.size, 0, none⟩ = some (.slice A n c) := (hbw.out.cell (p := ⟨w.heap.size, 0, none⟩) hz3).trans hbox3'.out
        have hBw := belowThen hB3'.out hbw.out
        obtain ⟨oA, oc, hof⟩ := hown1.form
        rw [hn'.out] at hof
        subst hof
        have cL1 := cLn'.out wr hBw
        have hown' := Lib.hid hown1
        have hBw' := Lib.hid hBw
        obtain ⟨ce, hce⟩ : ∃ ce, checkE Ls = ce := ⟨_, rfl⟩
        have hlin : ∀ e W, RefLinesP Ls e W → ∃ uA un uc, e = .returned (.tuple #[.slice uA un uc, .int .i64 (ce : Int)]) ∧ (ce = 0 → LinesAt W (.slice uA un uc) (canC Ls)) := fun e W h => by
          rcases h with ⟨h1, h2⟩ | ⟨h1, u, h2, h3⟩
          · exact ⟨none, 0, 0, by rw [h2, hce], fun h0 => absurd (hce.trans h0) h1⟩
          · obtain ⟨uA, _, _, uc, hu, _⟩ := id h3
            exact ⟨uA, _, uc, by rw [h2, hu, ← hce, h1]; rfl, fun _ => hu ▸ h3⟩
        have hlin' := Lib.hid hlin
        clear hown hown1 htk hlin hbw hBw
        go_wp2_with fail
        go_at_call 13
        with_reducible refine cL1.mono ?_
        rintro e x1 ⟨hlp, hb1⟩
        obtain ⟨uA, un, uc, rfl, hlu⟩ := hlin'.out _ _ hlp
        have hCells : ∀ W, Below wr.heap.size wr W → W.cell? ⟨db, 0, none⟩ = some (.slice oA n oc) ∧ W.cell? ⟨w.heap.size, 0, none⟩ = some (.slice A n c) := fun W hW =>
          ⟨(hW.cell (p := ⟨db, 0, none⟩) (Array.getElem?_eq_some_iff.1 hkd.out).1).trans d0, (hW.cell (p := ⟨w.heap.size, 0, none⟩) (World.block_lt_of_cell? wr ⟨w.heap.size, 0, none⟩ dC)).trans dC⟩
        have hCells' := Lib.hid hCells
        obtain ⟨dO1, dC1⟩ := hCells x1 hb1
        have cC1 := cCn'.out _ x1 (belowThen hBw'.out hb1) (hown'.out.kept hb1).at
        obtain ⟨cp, hcp⟩ : ∃ cp, codeP Ls = cp := ⟨_, rfl⟩
        rw [hcp] at cC1
        have hb1' := Lib.hid hb1
        have hlu' := Lib.hid hlu
        have hcp' := Lib.hid hcp
        have hce' := Lib.hid hce
        clear cL1 d0 dC hlp hb1 hlu hCells hlin' hcp hce
        go_wp2_with fail
        go_at_call 18
        with_reducible refine cC1.mono ?_
        rintro e x2 ⟨⟨cA, cn, cc, rfl, hdo⟩, hb2⟩
        obtain ⟨x3, hx3⟩ : ∃ x3, x2.alloc (.cells #[.slice cA cn cc] 25) = x3 := ⟨_, rfl⟩
        have hb23 : Below x2.heap.size x2 x3 := by rw [← hx3]; exact (Below.refl _ _).alloc (Nat.le_refl _) _
        have hk3 : x3.heap[x2.heap.size]? = some (.cells #[.slice cA cn cc] 25 (0, 0)) := by rw [← hx3]; exact heap_alloc_new x2 _
        obtain ⟨dd, hdd⟩ : ∃ dd, x2.heap.size = dd := ⟨_, rfl⟩
        rw [hdd] at hk3
        have hb13 := belowThen hb2 hb23
        have hbr3 := belowThen hb1'.out hb13
        obtain ⟨dO3, dC3⟩ := hCells'.out x3 hbr3
        have cP3 := cPr'.out _ x3 (belowThen hBw'.out hbr3) (hown'.out.kept hbr3).at
        rw [hcp'.out] at cP3
        have hdo' := Lib.hid hdo
        have hk3' := Lib.hid hk3
        have hb13' := Lib.hid hb13
        have hb23' := Lib.hid hb23
        have hbr3' := Lib.hid hbr3
        clear cC1 dO1 dC1 hdo hb2 hb23 hk3 hb13 hbr3
        go_wp2_with fail
        go_at_call 14
        with_reducible refine cP3.mono ?_
        rintro e x4 ⟨⟨s, hs, rfl⟩, hb34⟩
        have hbr4 := belowThen hbr3'.out hb34
        have hb14 := belowThen hb13'.out hb34
        obtain ⟨dO4, dC4⟩ := hCells'.out x4 hbr4
        have cK4 := cCk'.out _ x4 (belowThen hBw'.out hbr4) (hown'.out.kept hbr4).at
        rw [hce'.out] at cK4
        have hk4' := Lib.hid (Li.blk_below hb34 hk3'.out)
        have hb14' := Lib.hid hb14
        have hbr4' := Lib.hid hbr4
        have hs' := Lib.hid hs
        have hdo4' := Lib.hid ((hdo'.out.kept hb23'.out).kept hb34)
        clear cP3 dO3 dC3 hb34 hbr4 hb14 hk3' hx3 hs hdd
        go_wp2_with fail
        go_at_call 19
        with_reducible refine cK4.mono ?_
        rintro e x5 ⟨rfl, hb45⟩
        have hbr5 := belowThen hbr4'.out hb45
        obtain ⟨dO5, dC5⟩ := hCells'.out x5 hbr5
        have cE5 := same5_any (.slice oA n oc) (.slice A n c) Ls x5 (hown'.out.kept hbr5).at (hL'.out x5 (belowThen hBw'.out hbr5))
        have hb15' := Lib.hid (belowThen hb14'.out hb45)
        have hbr5' := Lib.hid hbr5
        have hk5' := Lib.hid (Li.blk_below hb45 hk4'.out)
        have hdo5' := Lib.hid (hdo4'.out.kept hb45)
        clear cK4 dO4 dC4 hb45 hbr5 hk4' hdo4' hb14' hbr4'
        go_wp2_with fail
        go_at_call 12
        with_reducible refine cE5.mono ?_
        rintro e x6 ⟨rfl, hb56⟩
        have hbr6' := Lib.hid (belowThen hbr5'.out hb56)
        have hb16' := Lib.hid (belowThen hb15'.out hb56)
        have hk6' := Lib.hid (Li.blk_below hb56 hk5'.out)
        have hdo6' := Lib.hid (hdo5'.out.kept hb56)
        clear cE5 dO5 dC5 hb56 hk5' hdo5' hb15' hbr5'
        by_cases hc0 : ce = 0
        · subst hc0
          obtain ⟨tx, htx⟩ : ∃ tx : ByteArray, tx.data.toList = cardT (canC Ls) := ⟨⟨(cardT (canC Ls)).toArray⟩, rfl⟩
          have cT := fun W (hW : Below x1.heap.size x1 W) => (textC_any (.slice uA un uc) Ls W ((hlu'.out (by trivial)).kept hW) (by omega) hce'.out).mono (fun e w' (h : (∃ x : ByteArray, x.data.toList = cardT (canC Ls) ∧ e = .returned (.string x)) ∧ Below W.heap.size W w') => (show e = .returned (.string tx) ∧ Below W.heap.size W w' from ⟨by obtain ⟨⟨x, h1, h2⟩, _⟩ := h; rw [h2, data_is (h1.trans htx.symm)], h.2⟩))
          have htl : (cardT (canC Ls)).length = tx.size := by rw [← htx, Array.length_toList]; rfl
          have cT6 := cT x6 hb16'.out
          have cT' := Lib.hid cT
          have htl' := Lib.hid htl
          have htx' := Lib.hid htx
          clear cT htl htx
          go_wp2_with fail
          go_at_call 15
          with_reducible refine cT6.mono ?_
          rintro e x7 ⟨rfl, hb67⟩
          have hbr7' := Lib.hid (belowThen hbr6'.out hb67)
          have hb17' := Lib.hid (belowThen hb16'.out hb67)
          have hk7' := Lib.hid (Li.blk_below hb67 hk6'.out)
          have hdo7' := Lib.hid (hdo6'.out.kept hb67)
          clear cT6 hb67 hk6' hdo6' hb16' hbr6'
          by_cases hlong : 65536 < tx.size
          · have hcc : cp = 11 := by rw [← hcp'.out]; exact codeP_long hce'.out (by rw [htl'.out]; exact hlong)
            subst hcc
            have hl1 : (65536 : Int) < (tx.size : Int) := by omega
            have hfin := Lib.hid (belowThen hBw'.out hbr7'.out)
            go_wp2
            go_ret
            exact ⟨rfl, hfin.out⟩
          · have hcc : cp = 0 := by rw [← hcp'.out]; exact codeP_ok hce'.out (by rw [htl'.out]; omega)
            subst hcc
            have hl1 : ¬ (65536 : Int) < (tx.size : Int) := by omega
            have hsx : s = tx := data_is (by rw [hs'.out, htx'.out]; unfold textP; rw [if_pos hcp'.out])
            subst hsx
            have hcC : canonP Ls = canC Ls := by unfold canonP; rw [if_pos hcp'.out]
            have hdo7 := hdo7'.out
            rw [hcC] at hdo7
            have cT7 := cT'.out x7 hb17'.out
            have hdoC := Lib.hid hdo7
            clear hdo7 hcC hdo7'
            go_wp2_with fail
            go_at_call 15
            with_reducible refine cT7.mono ?_
            rintro e x8 ⟨rfl, hb78⟩
            have hbr8' := Lib.hid (belowThen hbr7'.out hb78)
            have hb18 := belowThen hb17'.out hb78
            have hk8 := Li.blk_below hb78 hk7'.out
            have dD8 : x8.cell? ⟨dd, 0, none⟩ = some (.slice cA cn cc) := (Lib.cell_of_heap hk8 0).trans rfl
            have hdo8 := hdoC.out.kept hb78
            have cE8 := same5_any (.slice cA cn cc) (.slice uA un uc) (canC Ls) x8 hdo8.at ((hlu'.out (by trivial)).kept hb18)
            have hb18' := Lib.hid hb18
            have hk8' := Lib.hid hk8
            have hdo8' := Lib.hid hdo8
            clear cT7 hb78 hb18 hk8 hdo8 hdoC hk7' hb17' hbr7'
            go_wp2_with fail
            go_at_call 12
            with_reducible refine cE8.mono ?_
            rintro e x9 ⟨rfl, hb89⟩
            have hbr9' := Lib.hid (belowThen hbr8'.out hb89)
            have hb19 := belowThen hb18'.out hb89
            have hk9 := Li.blk_below hb89 hk8'.out
            obtain ⟨us', hsp⟩ := SpoL.of (hdo8'.out.kept hb89) hb19
            obtain ⟨Ms, hMs⟩ : ∃ Ms, canC Ls = Ms := ⟨_, rfl⟩
            rw [hMs] at hsp
            have hpc : prsum Ms ≤ 8388608 := by rw [← hMs]; have := prsum_canC hce'.out; omega
            have hMin : ∀ M ∈ Ms, Li.SzL 8388608 M := fun M hM => Li.sz_pr (by have := prsum_mem hM; omega)
            obtain ⟨_, _, hf⟩ := (hdo8'.out.kept hb89).form
            rw [hMs] at hf
            injection hf with hf1 hf2 hf3
            have hf4 : Ms.length = cn := hf2.symm
            have hMl : cn ≤ 8388608 := by rw [← hf4]; have := prsum_len Ms; omega
            have hm' := Lib.hid hf4
            have hsp' := Lib.hid hsp
            have hk9' := Lib.hid hk9
            have hMin' := Lib.hid hMin
            have dD9 : x9.cell? ⟨dd, 0, none⟩ = some (.slice cA cn cc) := (Lib.cell_of_heap hk9 0).trans rfl
            clear hf1 hf2 hf3 hf4 hsp hk9 hMin hb19 cE8 hb89 hk8' hdo8' hb18' hpc dD8 hMs
            go_wp2_with fail
            clear dD9
            go_loopw [116] (fun s116 wx => ∃ i : Nat, s116 = .int .i64 (i : Int) ∧ i ≤ cn ∧ Hid (SpoL x1 (.slice cA cn cc) Ms us' wx) ∧ Hid (wx.heap[dd]? = some (.cells #[.slice cA cn cc] 25 (0, 0)))) (fun s116 wx => cn - (RowKit.intOf s116).toNat)
            case atStart => exact ⟨0, rfl, Nat.zero_le _, hsp', hk9'⟩
            case round =>
              clear hsp' hk9' hk hlt ek
              obtain ⟨i, rfl, hi, hsp, hkd9⟩ := hrel
              have dD : wr.cell? ⟨dd, 0, none⟩ = some (.slice cA cn cc) := (Lib.cell_of_heap hkd9.out 0).trans rfl
              by_cases hlm : i < cn
              · have hM : Ms[i]? = some (Ms[i]'(by have := hm'.out; omega)) := List.getElem?_eq_getElem _
                obtain ⟨M, hMe⟩ : ∃ M, Ms[i]'(by have := hm'.out; omega) = M := ⟨_, rfl⟩
                have hMm : M ∈ Ms := by rw [← hMe]; exact List.getElem_mem _
                rw [hMe] at hM
                have hzM := hMin'.out M hMm
                obtain ⟨g, gc, u2, ev, hcu, hus, hpn⟩ := hsp.out.line hM
                rw [hm'.out] at ev
                injection ev with ev1 ev2 ev3
                subst ev1; subst ev3
                obtain ⟨pA, pc, rfl, _⟩ := hpn.form
                obtain ⟨l, hl⟩ : ∃ l, (lens M).length = l := ⟨_, rfl⟩
                have hlb : l ≤ 8388608 := by rw [← hl]; unfold lens; rw [List.length_map]; exact hzM.k
                rw [hl] at hcu hus
                have jm : (i : Int) < (cn : Int) := by omega
                have jm0 : (0 : Int) ≤ (i : Int) := by omega
                have hM' := Lib.hid hM
                have hus' := Lib.hid hus
                have hl' := Lib.hid hl
                clear hMe hMm hM hus hpn hl hzM ev2
                go_wp2_with fail
                clear hcu dD
                go_loopw [126] (fun s126 wx => ∃ j : Nat, s126 = .int .i64 (j : Int) ∧ j ≤ l ∧ Hid (SpoL x1 (.slice (some ⟨g, 0, none⟩) cn cc) Ms us' wx) ∧ Hid (wx.heap[dd]? = some (.cells #[.slice (some ⟨g, 0, none⟩) cn cc] 25 (0, 0)))) (fun s126 wx => l - (RowKit.intOf s126).toNat)
                case atStart => exact ⟨0, rfl, Nat.zero_le _, hsp, hkd9⟩
                case round =>
                  clear hsp hkd9
                  obtain ⟨j, rfl, hj, hsp, hkd9⟩ := hrel
                  by_cases hjl : j < l
                  · have hnj : (lens M)[j]? = some ((lens M)[j]'(by have := hl'.out; omega)) := List.getElem?_eq_getElem _
                    obtain ⟨g1, gc1, u2, ev, hcu, hus, hpn⟩ := hsp.out.line hM'.out
                    rw [hus'.out] at hus
                    injection hus with hus
                    subst hus
                    rw [hm'.out] at ev
                    injection ev with ev1 ev2 ev3
                    injection ev1 with ev1
                    injection ev1 with ev1
                    subst ev1
                    obtain ⟨g2, gc2, cs2, x0, y2, ep, hB2, hk2, hn2, hf2, hv2, hst2⟩ := hpn.at hnj
                    rw [hl'.out] at ep
                    injection ep with ep1 ep2 ep3
                    subst ep1
                    have hspS := hsp.out.name hk2 hB2 j ⟨#[83, 80, 79, 73, 76, 84]⟩
                    have hkS := Li.blk_store hkd9.out (p := ⟨g2, j * 2, none⟩) (fun e => by
                      have e : dd = g2 := e
                      have h0 := hkd9.out
                      rw [e, hk2] at h0
                      injection h0 with h0
                      injection h0 with _ ht
                      exact absurd ht (by decide)) (.string ⟨#[83, 80, 79, 73, 76, 84]⟩)
                    have dD : wr.cell? ⟨dd, 0, none⟩ = some (.slice (some ⟨g, 0, none⟩) cn cc) := (Lib.cell_of_heap hkd9.out 0).trans rfl
                    have jl : (j : Int) < (l : Int) := by omega
                    have jl0 : (0 : Int) ≤ (j : Int) := by omega
                    have hspS' := Lib.hid hspS
                    have hkS' := Lib.hid hkS
                    clear hpn hnj hB2 hk2 hv2 hst2 hspS hkS hsp ev2 ev3 ep2 ep3 hkd9
                    go_wp2_with fail
                    go_roundw
                    case rel => exact ⟨j + 1, by go_num, by omega, hspS', hkS'⟩
                    case measure => simp [RowKit.intOf]; omega
                  · go_wp2_with fail
                    go_roundw
                    case rel => exact ⟨i + 1, by go_num, by omega, hsp, hkd9⟩
                    case measure => simp [RowKit.intOf]; omega
              · have hbZ := belowThen hb1'.out hsp.out.below
                obtain ⟨dO, dC⟩ := hCells'.out wr hbZ
                have hBZ := belowThen hBw'.out hbZ
                have cE := same5_any (.slice oA n oc) (.slice A n c) Ls wr (hown'.out.kept hbZ).at (hL'.out wr hBZ)
                have hBZ' := Lib.hid hBZ
                clear hbZ hBZ hsp
                go_wp2_with fail
                go_at_call 12
                with_reducible refine cE.mono ?_
                rintro e wz ⟨rfl, hbz⟩
                have hfin := Lib.hid (belowThen hBZ'.out hbz)
                clear cE hbz
                go_wp2
                go_ret
                exact ⟨rfl, hfin.out⟩
        · have hcc : cp = ce := by rw [← hcp'.out, ← hce'.out]; exact codeP_bad (by rw [hce'.out]; exact hc0)
          subst hcc
          have hcn : codeP Ls ≠ 0 := by rw [hcp'.out]; exact hc0
          have hs0 : s = ⟨#[]⟩ := data_is (by rw [hs'.out]; unfold textP; rw [if_neg hcn])
          subst hs0
          obtain ⟨_, _, hf⟩ := hdo6'.out.form
          have hcz : canonP Ls = [] := by unfold canonP; rw [if_neg hcn]
          rw [hcz] at hf
          injection hf with hf1 hf2 hf3
          have hf4 : cn = 0 := hf2
          clear hf1 hf2 hf3
          subst hf4
          have dD : x6.cell? ⟨dd, 0, none⟩ = some (.slice cA 0 cc) := (Lib.cell_of_heap hk6'.out 0).trans rfl
          have dn : ((cp : Int) == 0) = false := beq_eq_false_iff_ne.2 (by omega)
          have hfin := Lib.hid (belowThen hBw'.out hbr6'.out)
          clear hcn hcz
          go_wp2
          go_ret
          exact ⟨rfl, hfin.out⟩
end Go.Proofs.YthnnpnlapjlnoaaGreatDoor.Ca
