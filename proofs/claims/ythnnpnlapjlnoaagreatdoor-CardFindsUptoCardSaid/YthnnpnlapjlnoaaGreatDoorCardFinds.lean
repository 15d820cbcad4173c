/-
  THE WALK OF THE LAW CardFinds.
-/
import Derived.Test.YthnnpnlapjlnoaaGreatDoorCardRegO
import Derived.Test.YthnnpnlapjlnoaaGreatDoorCardFind
import Derived.Test.YthnnpnlapjlnoaaGreatDoorCardSpoil
import Derived.Test.YthnnpnlapjlnoaaGreatDoorCardSame5
import Derived.Test.YthnnpnlapjlnoaaGreatDoorMg23
set_option linter.unusedVariables false
namespace Go.Proofs.YthnnpnlapjlnoaaGreatDoor.Ca
open Go.Lib Go.RowKit
open Li (LD PD sv POwn LOwn LineAt PrmsAt chk pr)

theorem byte_eq {x y : ByteArray} (h : x.data.toList = y.data.toList) : x = y := by
  cases x; cases y
  simp only [Array.toList_inj] at h
  rw [h]
set_option maxHeartbeats 4000000 in
set_option maxRecDepth 100000 in
theorem finds_walk (v : Value) (Ls : List LD) (nm : ByteArray) (w : World) (h : LinesAt w v Ls) (hS : prsum Ls ≤ 4194304) (hnm : nm.size ≤ 1048576) (hT : Ch.Tabs w) :
    Calls Tryz.prog 5 #[.agg #[v], .string nm] w fun e w' => e = .returned (.bool true) ∧ Below w.heap.size w w' := by
  obtain ⟨n, hn⟩ : ∃ n, Ls.length = n := ⟨_, rfl⟩
  have hnl : n ≤ 4194304 := by have := prsum_len Ls; omega
  have hsz : ∀ L ∈ Ls, Li.SzL 4194304 L := fun L hL => Li.sz_pr (N := 4194304) (by have := prsum_mem hL; omega)
  have cF := fun W (hW : Below w.heap.size w W) => first_any W (Ch.tabs_below hT hW)
  have cS := fun W (hW : Below w.heap.size w W) => small_any v Ls W (h.kept hW) (by omega) (fun L hL => ⟨by have := (hsz L hL).k; omega, fun p hp => by have := (hsz L hL).pk p hp; omega⟩)
  obtain ⟨A, b, off, c, us, rfl, hul, hA, hcell, hpr⟩ := h.src
  have hNm : ∀ (ov : Value) W, LinesAt W ov Ls → Calls Tryz.prog 21 #[.agg #[ov], .string nm] W fun e w' => (∃ u, e = .returned u ∧ LsOwn W.heap.size u (named nm.data.toList Ls) w') ∧ Below W.heap.size W w' := fun ov W hW => find_any ov Ls nm W hW (by omega) hsz hnm
  rw [hn] at hA h cS ⊢
  have hL := fun W (hW : Below w.heap.size w W) => h.kept hW
  obtain ⟨w1, hw1⟩ : ∃ w1, w.alloc (.cells #[.slice A n c] 25) = w1 := ⟨_, rfl⟩
  have hB1 : Below w.heap.size w w1 := by rw [← hw1]; exact (Below.refl _ _).alloc (Nat.le_refl _) _
  have hbox : w1.cell? ⟨w.heap.size, 0, none⟩ = some (.slice A n c) := by rw [← hw1]; simp
  have hz1 : w.heap.size < w1.heap.size := by rw [← hw1]; simp
  go_enter Tryz.func5, Tryz.ntmps5
  go_wp2_with fail
  go_at_call 9
  with_reducible refine (cF w1 hB1).mono ?_
  rintro e w2 ⟨rfl, hb2⟩
  have hB2 := belowThen hB1 hb2
  have hbox2 : w2.cell? ⟨w.heap.size, 0, none⟩ = some (.slice A n c) := (hb2.cell (p := ⟨w.heap.size, 0, none⟩) hz1).trans hbox
  have hz2 : w.heap.size < w2.heap.size := Nat.lt_of_lt_of_le hz1 hb2.size
  have cF' := Lib.hid cF
  have hL' := Lib.hid hL
  have hpr' := Lib.hid hpr
  have hcell' := Lib.hid hcell
  have hA' := Lib.hid hA
  have hsz' := Lib.hid hsz
  have hn' := Lib.hid hn
  have hNm' := Lib.hid hNm
  have cS2 := cS w2 hB2
  clear cF hL hpr hcell hA hT hsz hn cS hb2 hB1 hbox hw1 h hNm
  go_wp2_with fail
  go_at_call 16
  with_reducible refine cS2.mono ?_
  rintro e w3 ⟨⟨bb, rfl⟩, hb3⟩
  have hB3 := belowThen hB2 hb3
  have hbox3 : w3.cell? ⟨w.heap.size, 0, none⟩ = some (.slice A n c) := (hb3.cell (p := ⟨w.heap.size, 0, none⟩) hz2).trans hbox2
  have hz3 : w.heap.size < w3.heap.size := Nat.lt_of_lt_of_le hz2 hb3.size
  clear hb3 hbox2 hz2 hB2 cS2 hz1
  cases bb with
  | false =>
    have c3 := cF'.out w3 hB3
    go_wp2_with fail
    go_at_call 9
    with_reducible refine c3.mono ?_
    rintro e w4 ⟨rfl, hb4⟩
    go_wp2
    go_ret
    exact ⟨rfl, belowThen hB3 hb4⟩
  | true =>
    have hB3' := Lib.hid hB3
    obtain ⟨w5, hw5⟩ : ∃ w5, w3.alloc (.cells #[.slice none 0 0] 25) = w5 := ⟨_, rfl⟩
    have hb35 : Below w3.heap.size w3 w5 := by rw [← hw5]; exact (Below.refl _ _).alloc (Nat.le_refl _) _
    have hk5 : w5.heap[w3.heap.size]? = some (.cells #[.slice none 0 0] 25 (0, 0)) := by rw [← hw5]; exact heap_alloc_new w3 _
    have hsz5 : w5.heap.size = w3.heap.size + 1 := by rw [← hw5]; simp
    have hbox5 : w5.cell? ⟨w.heap.size, 0, none⟩ = some (.slice A n c) := (hb35.cell (p := ⟨w.heap.size, 0, none⟩) hz3).trans hbox3
    obtain ⟨db, hdb⟩ : ∃ db, w3.heap.size = db := ⟨_, rfl⟩
    rw [hdb] at hk5 hsz5
    have hm5 : Mix (db + 1) (.slice none 0 0) (named nm.data.toList (Ls.take 0)) w3 w5 := Mix.nil hb35 (by omega)
    have hl5 : LsOwn (db + 1) (.slice none 0 0) (Ls.take 0) w5 := LsOwn.nil _ _
    have hk5' := Lib.hid hk5
    have hb35' := Lib.hid hb35
    have hm5' := Lib.hid hm5
    have hl5' := Lib.hid hl5
    have hbox3' := Lib.hid hbox3
    clear hk5 hb35 hm5 hl5 hbox3 hB3
    go_wp2_with fail
    try rw [hw5]
    try rw [hdb]
    go_loopw [6, 24] (fun s6 s24 wr => ∃ (k : Nat) (ov : Value), s24 = .int .i64 (k : Int) ∧ k ≤ n ∧ Hid (wr.heap[db]? = some (.cells #[ov] 25 (0, 0))) ∧ Hid (LsOwn (db + 1) ov (Ls.take k) wr) ∧ Hid (Mix (db + 1) s6 (named nm.data.toList (Ls.take k)) w3 wr) ∧ Hid (Below w3.heap.size w3 wr) ∧ Hid (∀ g, ov.ownBlock = some g → s6.ownBlock ≠ some g)) (fun s6 s24 wr => n - (RowKit.intOf s24).toNat)
    case atStart => exact ⟨0, _, rfl, Nat.zero_le _, hk5', hl5', hm5', hb35', Lib.hid (fun g e => by simp [Value.ownBlock] at e)⟩
    case round =>
      clear hk5' hm5' hb35' hbox5 hl5'
      obtain ⟨k, ov, rfl, hk, hkd, hown, hmx, hbw, hdis⟩ := hrel
      by_cases hlt : k < n
      · have hl : Ls[k]? = some (Ls[k]'(by have := hn'.out; omega)) := List.getElem?_eq_getElem _
        obtain ⟨L, hle⟩ : ∃ L, Ls[k]'(by have := hn'.out; omega) = L := ⟨_, rfl⟩
        have hmem : L ∈ Ls := by rw [← hle]; exact List.getElem_mem _
        rw [hle] at hl
        have htk : Ls.take (k + 1) = Ls.take k ++ [L] := by rw [List.take_succ_eq_append_getElem (List.getElem?_eq_some_iff.1 hl).1, (List.getElem?_eq_some_iff.1 hl).2]
        obtain ⟨rfl, hbz⟩ := hA'.out (by omega)
        obtain ⟨a1, a2, a4, pA, pn, pc, e1, e2, e4, hP, g0, g1, g2, g3⟩ := line_src hul hcell'.out hpr'.out hbz (belowThen hB3'.out hbw.out) hl
        have hzL := hsz'.out L hmem
        have cC : ∀ W, Below w3.heap.size w3 W → Calls Tryz.prog 17 #[.agg #[.string a1, .string a2, .slice pA pn pc, .string a4]] W fun e w' => (∃ qv, e = .returned (.agg #[.string a1, .string a2, qv, .string a4]) ∧ POwn W.heap.size qv L.params w') ∧ Below W.heap.size W w' := fun W hW =>
          (Li.refCopy_any _ L W ⟨.slice pA pn pc, by rw [e1, e2, e4], hP.kept (belowThen hB3'.out hW)⟩ (by have := hzL.k; omega) (fun p hp => by have := hzL.pk p hp; omega)).mono fun e w' ⟨⟨u, he, qv, hu, hq⟩, hb⟩ => ⟨⟨qv, by rw [he, hu, e1, e2, e4], hq⟩, hb⟩
        have cLa := fun W => low_sv e2 W (by have := hzL.n; omega)
        obtain ⟨y, ey, hy⟩ := Li.sv_some (Ch.low L.name)
        rw [ey] at cLa
        obtain ⟨w6, hw6⟩ : ∃ w6, wr.alloc (.cells #[.string a1, .string a2, .slice pA pn pc, .string a4] 41) = w6 := ⟨_, rfl⟩
        have hb6 : Below wr.heap.size wr w6 := by rw [← hw6]; exact (Below.refl _ _).alloc (Nat.le_refl _) _
        have hk6 : w6.heap[wr.heap.size]? = some (.cells #[.string a1, .string a2, .slice pA pn pc, .string a4] 41 (0, 0)) := by rw [← hw6]; exact heap_alloc_new wr _
        obtain ⟨bl, hbl⟩ : ∃ bl, wr.heap.size = bl := ⟨_, rfl⟩
        rw [hbl] at hk6
        have hdbr : db < bl := by rw [← hbl]; exact (Array.getElem?_eq_some_iff.1 hkd.out).1
        obtain ⟨X, hX⟩ : ∃ X : World → Prop, X = fun W => Mix (db + 1) u6 (named nm.data.toList (Ls.take k)) w3 W ∧ W.heap[bl]? = some (.cells #[.string a1, .string a2, .slice pA pn pc, .string a4] 41 (0, 0)) := ⟨_, rfl⟩
        have hX0 : X w6 := by rw [hX]; exact ⟨hmx.out.kept hb6, hk6⟩
        have hXk : ∀ W, X W → W.heap[bl]? = some (.cells #[.string a1, .string a2, .slice pA pn pc, .string a4] 41 (0, 0)) := fun W h => by rw [hX] at h; exact h.2
        have hX1 : ∀ W W', X W → Below W.heap.size W W' → X W' := fun W W' h hb => by rw [hX] at h ⊢; exact ⟨h.1.kept hb, Li.blk_below hb h.2⟩
        have hovlt : ∀ g, ov.ownBlock = some g → g < bl := fun g e => by rw [← hbl]; exact (hown.out.lt e).2
        have hX2 : ∀ W W', X W → w6.heap.size ≤ W.heap.size → W.grownBy W' ov.ownBlock → Left W (db + 1) W' → X W' := fun W W' h hs hg hlf => by
          rw [hX] at h ⊢
          have hbe : Below w3.heap.size w3 W := by obtain ⟨_, _, _, _, q, _⟩ := h.1; exact q
          refine ⟨h.1.grown hg (hlf _ _ hbe (by omega) hbe.size) (fun g e q => hdis.out g q e), Li.blk_grown h.2 hg (fun g e q => ?_)⟩
          have := hovlt g e
          omega
        have hX3 : ∀ W v, X W → X (W.setCell ⟨db, 0, none⟩ v) := fun W v h => by
          rw [hX] at h ⊢
          refine ⟨h.1.storedLow (a := ⟨db, 0, none⟩) (by show db < db + 1; omega) (by show _ ≤ db; omega) _, Li.blk_store h.2 (p := ⟨db, 0, none⟩) (by show bl ≠ db; omega) _⟩
        have hkd6 := Li.blk_below hb6 hkd.out
        have hown6 := hown.out.kept hb6
        have hbw6 := belowThen hbw.out hb6
        have hlen : (named nm.data.toList (Ls.take k)).length ≤ n := by
          have h1 := named_len nm.data.toList (Ls.take k)
          rw [List.length_take] at h1; omega
        have htl : (Ls.take k).length ≤ n := by rw [List.length_take]; omega
        have hwlt : ∀ g, u6.ownBlock = some g → g < bl := fun g e => by rw [← hbl]; exact (hmx.out.lt e).2
        have hbl6 : bl < w6.heap.size := (Array.getElem?_eq_some_iff.1 hk6).1
        obtain ⟨q0, q1, q2, q3, _, _, _, _⟩ := Li.res4 hk6
        have hd := Lib.hid (And.intro hy (And.intro e1 (And.intro e2 e4)))
        have hP' := Lib.hid (hP.kept hB3'.out)
        have hsn := Lib.hid (named_snoc nm.data.toList Ls k L hl)
        have hdis' := hdis
        have cC' := Lib.hid cC
        have hX0' := Lib.hid hX0
        have hkd6' := Lib.hid hkd6
        have hown6' := Lib.hid hown6
        have hbw6' := Lib.hid hbw6
        have hXX := Lib.hid hX
        have hX1' := Lib.hid hX1
        have hX2' := Lib.hid hX2
        have hX3' := Lib.hid hX3
        have hXk' := Lib.hid hXk
        have hwlt' := Lib.hid hwlt
        have hovlt' := Lib.hid hovlt
        have hP3 := hP'
        clear hle hmem ey hy hP hb6 hk6 hX0 hXk hX1 hX2 hX3 hovlt hwlt hkd6 hown6 hbw6 hX cC hl hkd hown hmx hbw
        go_upto_region 8 with fail
        clear g0 g1 g2 g3
        go_cut [] from 28 to 34 (fun wx => ∃ rv : Value, Hid (wx.heap[db]? = some (.cells #[rv] 25 (0, 0))) ∧ Hid (LsOwn (db + 1) rv (Ls.take k ++ [L]) wx) ∧ Hid (X wx) ∧ Hid (Below w3.heap.size w3 wx) ∧ Hid (∀ g, rv.ownBlock = some g → ov.ownBlock = some g ∨ w6.heap.size ≤ g))
        case first =>
          rename_i J K' hJ hK'
          refine Rg.region_inv (by kernel_rfl) RgF.slots8 (by decide) (by kernel_rfl) (RgF.I8 w6 w3 X db ov (Ls.take k) L a1 a2 a4 (.slice pA pn pc)) ?_ ?_ ?_
          · have hdr : Below w6.heap.size w6 w6.drew := belowDrewN 1 (Below.refl _ _)
            exact ⟨0, .slice none 0 0, ov, RgF.N8.start (belowThen hbw6'.out hdr) (by omega) hdr.size (hX1'.out _ _ hX0'.out hdr) (hown6'.out.kept hdr) (Li.blk_below hdr hkd6'.out)⟩
          · exact ⟨RgF.st0 rfl rfl rfl rfl, RgF.st1 rfl rfl rfl (by show 34 < 107; omega) (by decide), RgF.st2 rfl rfl rfl bl hXk'.out ⟨_, _, _, rfl⟩ rfl, RgF.st3 rfl rfl rfl (by show 34 < 107; omega) (by decide) hX1'.out cC'.out,
              RgF.st4 rfl rfl rfl (by show 34 < 107; omega) (by decide) hX1'.out, RgF.st5 rfl rfl rfl (by show 34 < 107; omega) (by decide) (by decide) e1 e2 e4 (by omega) hX2'.out, RgF.st6 rfl rfl rfl rfl, RgF.st7 rfl rfl rfl (by show 34 < 107; omega) (by decide) (by decide) hX3'.out, trivial⟩
          · rintro d u W ⟨g32, qv, rv, h⟩ hall
            have r1 := h.row
            have r2 := h.box
            rw [hall 5 (by show 5 < 8; omega)] at r1
            rw [hall 7 (by show 7 < 8; omega)] at r2
            have r3 := h.x
            have r4 := h.bel
            have r5 := h.own
            clear h hall
            show K' _ _
            refine hK' _ _ (Met.intro (hJ _ _ ?_))
            unfold Rg.puts RgF.slots8
            simp only [List.foldl_cons, List.foldl_nil, Act.put, List.setIfInBounds_toArray, List.set_cons_succ, List.set_cons_zero]
            repeat apply Exists.intro
            refine ⟨?rel, rfl⟩
            exact ⟨rv, Lib.hid r2, Lib.hid r1, Lib.hid r3, Lib.hid r4, Lib.hid r5⟩
        case rest =>
          obtain ⟨rv, hkd, hown, hx, hbw, ho⟩ := hcut
          obtain ⟨wd, rfl⟩ : ∃ wd, wd = wc := ⟨_, rfl⟩
          have hx' := hx.out
          rw [hXX.out] at hx'
          obtain ⟨hmx, hkb⟩ := hx'
          have hdis2 : ∀ g, rv.ownBlock = some g → u6.ownBlock ≠ some g := fun g e q => by
            rcases ho.out g e with h | h
            · exact hdis'.out g h q
            · have := hwlt'.out g q; omega
          obtain ⟨p0, p1, p2, p3, _, _, _, _⟩ := Li.res4 hkb
          have hkb0 := hkb
          have hnl9 : nm.data.toList.length ≤ 1048576 := by rw [Array.length_toList]; exact hnm
          have cLb := fun W => low_sv (l := nm.data.toList) (x := nm) (by show Value.string ⟨nm.data.toList.toArray⟩ = _; rw [Array.toArray_toList]) W (by omega)
          obtain ⟨y', ey', hy'⟩ := Li.sv_some (Ch.low nm.data.toList)
          rw [ey'] at cLb
          have hmx' := Lib.hid hmx
          have hkb' := Lib.hid hkb
          have hdis3 := Lib.hid hdis2
          have hyn := Lib.hid hy'
          clear hmx hkb hkb0 hx hdis2 cC' hX0' hX1' hX2' hX3' hXk' hXX ey' hy' ho hwlt' hovlt' hkd6' hown6' hbw6' q0 q1 q2 q3 e1 e2 e4
          go_wp2_with fail
          go_at_call 20
          with_reducible refine (cLa _).mono ?_
          rintro e x1 ⟨rfl, hb1⟩
          go_wp2_with fail
          go_at_call 20
          with_reducible refine (cLb _).mono ?_
          rintro e x2 ⟨rfl, hb2⟩
          have hb12 := belowThen hb1 hb2
          have hkd2 := Lib.hid (Li.blk_below hb12 hkd.out)
          have hown2 := Lib.hid (hown.out.kept hb12)
          have hmx2 := Lib.hid (hmx'.out.kept hb12)
          have hbw2 := Lib.hid (belowThen hbw.out hb12)
          have hkb2 := Li.blk_below hb12 hkb'.out
          obtain ⟨r0, r1, r2, r3, _, _, _, _⟩ := Li.res4 hkb2
          clear hb12 hb1 hb2 hkd hown hmx' hbw hkb' p0 p1 p2 p3 cLa cLb
          by_cases hq : y = y'
          · subst hq
            have hlow : Ch.low L.name = Ch.low nm.data.toList := by rw [← hd.out.1, ← hyn.out]
            obtain ⟨w8, hw8⟩ : ∃ w8, x2.alloc (.cells #[.string a1, .string a2, .slice pA pn pc, .string a4] 41) = w8 := ⟨_, rfl⟩
            have hb8 : Below x2.heap.size x2 w8 := by rw [← hw8]; exact (Below.refl _ _).alloc (Nat.le_refl _) _
            have hk8 : w8.heap[x2.heap.size]? = some (.cells #[.string a1, .string a2, .slice pA pn pc, .string a4] 41 (0, 0)) := by rw [← hw8]; exact heap_alloc_new x2 _
            have hc8 : ∀ t x, (lcells [L] [.slice pA pn pc])[t]? = some x → w8.cell? ⟨x2.heap.size, 0 + t, none⟩ = some x := by
              have e : lcells [L] [.slice pA pn pc] = [.string a1, .string a2, .slice pA pn pc, .string a4] := by
                rw [← hd.out.2.1, ← hd.out.2.2.1, ← hd.out.2.2.2]; rfl
              rw [e]
              intro t x hx
              rw [Lib.cell_of_heap hk8, Nat.zero_add]
              match t, hx with
              | 0, hx => simpa using hx
              | 1, hx => simpa using hx
              | 2, hx => simpa using hx
              | 3, hx => simpa using hx
            have hP8 : ∀ (j : Nat) (M : LD) (u : Value), [L][j]? = some M → [Value.slice pA pn pc][j]? = some u → PrmsAt w3 u M.params := fun j M u hj hu => by
              match j, hj, hu with
              | 0, hj, hu => simp at hj hu; subst hj; subst hu; exact hP'.out
            have hm8 := hmx2.out.kept hb8
            have hown8 := hown2.out.kept hb8
            have hkd8 := Li.blk_below hb8 hkd2.out
            have hbw8 := belowThen hbw2.out hb8
            have sz8 : db + 1 ≤ w8.heap.size := by have := (Array.getElem?_eq_some_iff.1 hkd8).1; omega
            have hm8' := Lib.hid hm8
            have hown8' := Lib.hid hown8
            have hkd8' := Lib.hid hkd8
            have hbw8' := Lib.hid hbw8
            have hc8' := Lib.hid hc8
            have hP8' := Lib.hid hP8
            clear hm8 hown8 hkd8 hbw8 hc8 hP8 hk8 hb8 hkd2 hown2 hmx2 hbw2 hkb2
            go_wp2_with (at_builtin; refine mix_append2 rfl _ _ rfl (db + 1) _ (named nm.data.toList (Ls.take k)) w3 rfl hm8'.out ⟨x2.heap.size, 0, none⟩ x2.heap.size 0 1 1 [L] [.slice pA pn pc] rfl rfl (by decide) rfl rfl hc8'.out hP8'.out (by omega) sz8 ?_)
            intro v9 w9 hm9 hleft hgr ho9
            have hk9 := Lib.hid (Li.blk_grown hkd8'.out hgr (fun g e q => by have := (hm8'.out.lt e).1; omega))
            have hown9 := Lib.hid (hown8'.out.beside hm8'.out hgr hdis3.out)
            have hbw9 := Lib.hid (hleft _ _ hbw8'.out (by omega) hbw8'.out.size)
            have hdis9 : ∀ g, rv.ownBlock = some g → v9.ownBlock ≠ some g := fun g e q => by
              rcases ho9 g q with h | h
              · exact hdis3.out g e h
              · have := (hown8'.out.lt e).2; omega
            have hdis9' := Lib.hid hdis9
            have hm9' := Lib.hid hm9
            clear hm9 hleft hgr ho9 hdis9 hm8' hown8' hkd8' hbw8' hc8' hP8' r0 r1 r2 r3
            go_wp2
            go_roundw
            case rel => exact ⟨k + 1, rv, by go_num, by omega, hk9, Lib.hid (by rw [htk]; exact hown9.out), Lib.hid (by rw [hsn.out, if_pos hlow]; exact hm9'.out), hbw9, hdis9'⟩
            case measure => simp [RowKit.intOf]; omega
          · have hlow : ¬ Ch.low L.name = Ch.low nm.data.toList := fun e => hq (byte_eq (by rw [hd.out.1, hyn.out, e]))
            have hq2 := nListEq hq
            clear hkb2 r0 r1 r2 r3
            go_wp2_with fail
            go_roundw
            case rel => exact ⟨k + 1, rv, by go_num, by omega, hkd2, Lib.hid (by rw [htk]; exact hown2.out), Lib.hid (by rw [hsn.out, if_neg hlow]; exact hmx2.out), hbw2, hdis3⟩
            case measure => simp [RowKit.intOf]; omega
      · have ek : k = n := by omega
        have htk : Ls.take k = Ls := List.take_of_length_le (by have := hn'.out; omega)
        have hown1 := hown.out
        have hmx1 := hmx.out
        rw [htk] at hown1 hmx1
        have d0 : wr.cell? ⟨db, 0, none⟩ = some ov := (Lib.cell_of_heap hkd.out 0).trans rfl
        obtain ⟨oA, oc, hof⟩ := hown1.form
        rw [hn'.out] at hof
        subst hof
        have cFi := hNm'.out _ wr hown1.at
        have hown' := Lib.hid hown1
        have hmx' := Lib.hid hmx1
        clear hown hmx hown1 hmx1 htk hdis
        go_wp2_with fail
        go_at_call 21
        with_reducible refine cFi.mono ?_
        rintro e wf ⟨⟨u, rfl, hu⟩, hbf⟩
        have cSm := same5_any u u6 (named nm.data.toList Ls) wf hu.at (hmx'.out.kept hbf).at
        obtain ⟨Ms, hMs⟩ : ∃ Ms, named nm.data.toList Ls = Ms := ⟨_, rfl⟩
        have hMin : ∀ M ∈ Ms, Li.SzL 4194304 M := fun M hM => hsz'.out M (by rw [← hMs] at hM; exact (List.mem_filter.1 hM).1)
        have hMl : Ms.length ≤ n := by have := named_len nm.data.toList Ls; rw [hMs] at this; have := hn'.out; omega
        rw [hMs] at hu
        obtain ⟨fA, fc, rfl⟩ := hu.form
        obtain ⟨mA, mc, rfl⟩ := hmx'.out.form
        rw [hMs] at cSm
        have hu' := Lib.hid hu
        have hbf' := Lib.hid hbf
        have hMin' := Lib.hid hMin
        clear cFi d0 hu hbf hMin
        go_wp2_with fail
        go_at_call 12
        with_reducible refine cSm.mono ?_
        rintro e ws ⟨rfl, hbs⟩
        obtain ⟨wb, rfl⟩ : ∃ wb, wb = wr := ⟨_, rfl⟩
        obtain ⟨us', hsp⟩ := SpoL.of (hu'.out.kept hbs) (belowThen hbf'.out hbs)
        obtain ⟨m, hm⟩ : ∃ m, Ms.length = m := ⟨_, rfl⟩
        rw [hm] at hsp hMl ⊢
        have hsp' := Lib.hid hsp
        have hm' := Lib.hid hm
        clear cSm hbs hsp hu' hbf' hm
        go_wp2_with fail
        go_loopw [55] (fun s55 wx => ∃ i : Nat, s55 = .int .i64 (i : Int) ∧ i ≤ m ∧ Hid (SpoL wb (.slice fA m fc) Ms us' wx)) (fun s55 wx => m - (RowKit.intOf s55).toNat)
        case atStart => exact ⟨0, rfl, Nat.zero_le _, hsp'⟩
        case round =>
          clear hsp'
          obtain ⟨i, rfl, hi, hsp⟩ := hrel
          by_cases hlm : i < m
          · have hM : Ms[i]? = some (Ms[i]'(by have := hm'.out; omega)) := List.getElem?_eq_getElem _
            obtain ⟨M, hMe⟩ : ∃ M, Ms[i]'(by have := hm'.out; omega) = M := ⟨_, rfl⟩
            have hMm : M ∈ Ms := by rw [← hMe]; exact List.getElem_mem _
            rw [hMe] at hM
            have hzM := hMin'.out M hMm
            obtain ⟨g, gc, u2, ev, hcu, hus, hpn⟩ := hsp.out.line hM
            rw [hm'.out] at ev
            injection ev with ev1 ev2 ev3
            subst ev1; subst ev3
            obtain ⟨pA, pc, rfl, _⟩ := hpn.form
            obtain ⟨l, hl⟩ : ∃ l, (lens M).length = l := ⟨_, rfl⟩
            have hlb : l ≤ 4194304 := by rw [← hl]; unfold lens; rw [List.length_map]; exact hzM.k
            rw [hl] at hcu hus
            have jm : (i : Int) < (m : Int) := by omega
            have jm0 : (0 : Int) ≤ (i : Int) := by omega
            have hM' := Lib.hid hM
            have hus' := Lib.hid hus
            have hl' := Lib.hid hl
            have hzM' := Lib.hid hzM
            clear hMe hMm hM hus hpn hl hzM ev2
            go_wp2_with fail
            go_loopw [64] (fun s64 wx => ∃ j : Nat, s64 = .int .i64 (j : Int) ∧ j ≤ l ∧ Hid (SpoL wb (.slice (some ⟨g, 0, none⟩) m fc) Ms us' wx)) (fun s64 wx => l - (RowKit.intOf s64).toNat)
            case atStart => exact ⟨0, rfl, Nat.zero_le _, hsp⟩
            case round =>
              clear hsp hcu
              obtain ⟨j, rfl, hj, hsp⟩ := hrel
              by_cases hjl : j < l
              · have hnj : (lens M)[j]? = some ((lens M)[j]'(by have := hl'.out; omega)) := List.getElem?_eq_getElem _
                obtain ⟨q, hq⟩ : ∃ q, (lens M)[j]'(by have := hl'.out; omega) = q := ⟨_, rfl⟩
                rw [hq] at hnj
                have hqb : q ≤ 4194304 := by
                  have h1 : q ∈ lens M := by rw [← hq]; exact List.getElem_mem _
                  obtain ⟨p0, hp0, rfl⟩ := List.mem_map.1 h1
                  exact hzM'.out.pk p0 hp0
                obtain ⟨g1, gc1, u2, ev, hcu, hus, hpn⟩ := hsp.out.line hM'.out
                rw [hus'.out] at hus
                injection hus with hus
                subst hus
                rw [hm'.out] at ev
                injection ev with ev1 ev2 ev3
                injection ev1 with ev1
                injection ev1 with ev1
                subst ev1
                obtain ⟨g2, gc2, cs2, x2, y2, ep, hB2, hk2, hn2, hf2, hv2, hst2⟩ := hpn.at hnj
                rw [hl'.out] at ep
                injection ep with ep1 ep2 ep3
                subst ep1
                have hspS := hsp.out.name hk2 hB2 j ⟨#[83, 80, 79, 73, 76, 84]⟩
                obtain ⟨wS, hwS⟩ : ∃ wS, wr.setCell ⟨g2, j * 2, none⟩ (.string ⟨#[83, 80, 79, 73, 76, 84]⟩) = wS := ⟨_, rfl⟩
                rw [hwS] at hspS
                have jl : (j : Int) < (l : Int) := by omega
                have jl0 : (0 : Int) ≤ (j : Int) := by omega
                have hspS' := Lib.hid hspS
                have hnj' := Lib.hid hnj
                clear hpn hnj hq hB2 hk2 hv2 hst2 hspS hsp ev2 ev3 ep2 ep3
                go_upto_region 22 with fail
                clear hcu hn2 hf2 hwS
                obtain ⟨g1, gc1, u2, ev, hcu, hus, hpn⟩ := hspS'.out.line hM'.out
                rw [hus'.out] at hus
                injection hus with hus
                subst hus
                rw [hm'.out] at ev
                injection ev with ev1 ev2 ev3
                injection ev1 with ev1
                injection ev1 with ev1
                subst ev1
                obtain ⟨g3, gc3, cs3, x3, y3, ep, hB3, hk3, hn3, hf3, hv3, hst3⟩ := hpn.at hnj'.out
                rw [hl'.out] at ep
                injection ep with ep1 ep2 ep3
                injection ep1 with ep1
                injection ep1 with ep1
                subst ep1
                obtain ⟨sA, sc, rfl, _⟩ := hst3.form
                clear hpn hB3 hk3 hst3 ev2 ev3 ep2 ep3 hn3 hf3
                go_wp2_with fail
                clear hcu hv3
                go_loopw [85] (fun s85 wx => ∃ t : Nat, s85 = .int .i64 (t : Int) ∧ t ≤ q ∧ Hid (SpoL wb (.slice (some ⟨g, 0, none⟩) m fc) Ms us' wx)) (fun s85 wx => q - (RowKit.intOf s85).toNat)
                case atStart => exact ⟨0, rfl, Nat.zero_le _, hspS'⟩
                case round =>
                  clear hspS'
                  obtain ⟨t, rfl, ht, hsp⟩ := hrel
                  by_cases htq : t < q
                  · obtain ⟨g1, gc1, u2, ev, hcu, hus, hpn⟩ := hsp.out.line hM'.out
                    rw [hus'.out] at hus
                    injection hus with hus
                    subst hus
                    rw [hm'.out] at ev
                    injection ev with ev1 ev2 ev3
                    injection ev1 with ev1
                    injection ev1 with ev1
                    subst ev1
                    obtain ⟨g4, gc4, cs4, x4, y4, ep, hB4, hk4, hn4, hf4, hv4, hst4⟩ := hpn.at hnj'.out
                    rw [hl'.out] at ep
                    injection ep with ep1 ep2 ep3
                    injection ep1 with ep1
                    injection ep1 with ep1
                    subst ep1
                    obtain ⟨g5, gc5, cs5, y5, rfl, hB5, hk5, hc5, hf5⟩ := hst4.at htq
                    have hst := Lib.hid (hsp.out.value hk5 hB5 t (.string ⟨#[115, 112, 111, 105, 108, 116]⟩))
                    have jt : (t : Int) < (q : Int) := by omega
                    have jt0 : (0 : Int) ≤ (t : Int) := by omega
                    clear hpn hB4 hk4 hn4 hf4 hst4 hB5 hk5 hsp ev2 ev3 ep2 ep3
                    go_wp2_with fail
                    go_roundw
                    case rel => exact ⟨t + 1, by go_num, by omega, hst⟩
                    case measure => simp [RowKit.intOf]; omega
                  · go_wp2_with fail
                    go_roundw
                    case rel => exact ⟨j + 1, by go_num, by omega, hsp⟩
                    case measure => simp [RowKit.intOf]; omega
              · go_wp2_with fail
                go_roundw
                case rel => exact ⟨i + 1, by go_num, by omega, hsp⟩
                case measure => simp [RowKit.intOf]; omega
          · have hbZ := hsp.out.below
            have dO : wr.cell? ⟨db, 0, none⟩ = some (.slice oA n oc) := (Lib.cell_of_heap (Li.blk_below hbZ hkd.out) 0).trans rfl
            have hzw : w.heap.size < wb.heap.size := Nat.lt_of_lt_of_le hz3 hbw.out.size
            have dC : wr.cell? ⟨w.heap.size, 0, none⟩ = some (.slice A n c) := (hbZ.cell (p := ⟨w.heap.size, 0, none⟩) hzw).trans ((hbw.out.cell (p := ⟨w.heap.size, 0, none⟩) hz3).trans hbox3'.out)
            have hBZ := belowThen (belowThen hB3'.out hbw.out) hbZ
            have cE := same5_any (.slice oA n oc) (.slice A n c) Ls wr (hown'.out.kept hbZ).at (hL'.out wr hBZ)
            have hBZ' := Lib.hid hBZ
            clear hbZ hBZ hsp
            go_wp2_with fail
            go_at_call 12
            with_reducible refine cE.mono ?_
            rintro e wz ⟨rfl, hbz⟩
            have hfin := Lib.hid (belowThen hBZ'.out hbz)
            clear cE hbz
            go_wp2
            go_ret
            exact ⟨rfl, hfin.out⟩
end Go.Proofs.YthnnpnlapjlnoaaGreatDoor.Ca
