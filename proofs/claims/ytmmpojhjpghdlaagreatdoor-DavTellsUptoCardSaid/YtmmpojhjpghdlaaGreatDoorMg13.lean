import Derived.Test.YtmmpojhjpghdlaaGreatDoorMg11
import Derived.Test.YtmmpojhjpghdlaaGreatDoorMg12
import Derived.Test.YtmmpojhjpghdlaaGreatDoorMg9
import Derived.Test.YtmmpojhjpghdlaaGreatDoorMg8

/-
  THE WALK OF dav.itemOf (written by tools/genitem.py): what is found in a response.
-/
set_option linter.unusedVariables false
namespace Go.Proofs.YtmmpojhjpghdlaaGreatDoor.Dv
open Go.Lib Go.RowKit Rg
open Xm (Row Pc sv PsOwn PcsAt below_then sv_some sv_str)

set_option maxHeartbeats 16000000 in
set_option maxRecDepth 100000 in
theorem itemOf_any {w0 : World} {x : El} {nb tb : ByteArray} {A : Option Addr} {n c : Nat} (hE : ElB w0 x nb tb A n c) (w : World) (hW : Below w0.heap.size w0 w) :
    Calls Tryz.prog 63 #[.agg #[.int .i64 x.s, .string nb, .string tb, .slice A n c]] w fun e w' => (∃ a0 a2 a3 : ByteArray, e = .returned (.agg #[.string a0, .bool (itemP x).gone, .string a2, .string a3, .bool (itemP x).book]) ∧ a0.data.toList = (itemP x).href ∧ a2.data.toList = (itemP x).tag ∧ a3.data.toList = (itemP x).data) ∧ Below w.heap.size w w' := by
  obtain ⟨nb1, tb1, A1, n1, c1, hE1, cO1⟩ := only_el hE ([((1 : Int), (⟨#[104, 114, 101, 102]⟩ : ByteArray))] : List NB)
  obtain ⟨q1, hq1⟩ : ∃ q, onlyP (([((1 : Int), (⟨#[104, 114, 101, 102]⟩ : ByteArray))] : List NB).map nmR) x.ks = q := ⟨_, rfl⟩
  rw [hq1] at hE1 cO1
  obtain ⟨x1, b1⟩ := q1
  simp only at hE1 cO1
  obtain ⟨nb2, tb2, A2, n2, c2, hE2, cO2⟩ := only_el hE ([((1 : Int), (⟨#[115, 116, 97, 116, 117, 115]⟩ : ByteArray))] : List NB)
  obtain ⟨q2, hq2⟩ : ∃ q, onlyP (([((1 : Int), (⟨#[115, 116, 97, 116, 117, 115]⟩ : ByteArray))] : List NB).map nmR) x.ks = q := ⟨_, rfl⟩
  rw [hq2] at hE2 cO2
  obtain ⟨x2, b2⟩ := q2
  simp only at hE2 cO2
  obtain ⟨nb3, tb3, A3, n3, c3, hE3, cO3⟩ := only_el hE ([((1 : Int), (⟨#[112, 114, 111, 112, 115, 116, 97, 116]⟩ : ByteArray))] : List NB)
  obtain ⟨q3, hq3⟩ : ∃ q, onlyP (([((1 : Int), (⟨#[112, 114, 111, 112, 115, 116, 97, 116]⟩ : ByteArray))] : List NB).map nmR) x.ks = q := ⟨_, rfl⟩
  rw [hq3] at hE3 cO3
  obtain ⟨x3, b3⟩ := q3
  simp only at hE3 cO3
  obtain ⟨nb4, tb4, A4, n4, c4, hE4, cO4⟩ := only_el hE3 ([((1 : Int), (⟨#[112, 114, 111, 112]⟩ : ByteArray))] : List NB)
  obtain ⟨q4, hq4⟩ : ∃ q, onlyP (([((1 : Int), (⟨#[112, 114, 111, 112]⟩ : ByteArray))] : List NB).map nmR) x3.ks = q := ⟨_, rfl⟩
  rw [hq4] at hE4 cO4
  obtain ⟨x4, b4⟩ := q4
  simp only at hE4 cO4
  obtain ⟨nb5, tb5, A5, n5, c5, hE5, cO5⟩ := only_el hE4 ([((1 : Int), (⟨#[103, 101, 116, 101, 116, 97, 103]⟩ : ByteArray))] : List NB)
  obtain ⟨q5, hq5⟩ : ∃ q, onlyP (([((1 : Int), (⟨#[103, 101, 116, 101, 116, 97, 103]⟩ : ByteArray))] : List NB).map nmR) x4.ks = q := ⟨_, rfl⟩
  rw [hq5] at hE5 cO5
  obtain ⟨x5, b5⟩ := q5
  simp only at hE5 cO5
  obtain ⟨nb6, tb6, A6, n6, c6, hE6, cO6⟩ := only_el hE4 ([((2 : Int), (⟨#[97, 100, 100, 114, 101, 115, 115, 45, 100, 97, 116, 97]⟩ : ByteArray))] : List NB)
  obtain ⟨q6, hq6⟩ : ∃ q, onlyP (([((2 : Int), (⟨#[97, 100, 100, 114, 101, 115, 115, 45, 100, 97, 116, 97]⟩ : ByteArray))] : List NB).map nmR) x4.ks = q := ⟨_, rfl⟩
  rw [hq6] at hE6 cO6
  obtain ⟨x6, b6⟩ := q6
  simp only at hE6 cO6
  obtain ⟨nb7, tb7, A7, n7, c7, hE7, cO7⟩ := only_el hE4 ([((1 : Int), (⟨#[114, 101, 115, 111, 117, 114, 99, 101, 116, 121, 112, 101]⟩ : ByteArray))] : List NB)
  obtain ⟨q7, hq7⟩ : ∃ q, onlyP (([((1 : Int), (⟨#[114, 101, 115, 111, 117, 114, 99, 101, 116, 121, 112, 101]⟩ : ByteArray))] : List NB).map nmR) x4.ks = q := ⟨_, rfl⟩
  rw [hq7] at hE7 cO7
  obtain ⟨x7, b7⟩ := q7
  simp only at hE7 cO7
  obtain ⟨R, hR⟩ : ∃ R, itemP x = R := ⟨_, rfl⟩
  have hR' := Lib.hid (show (⟨x1.t, b2, x5.t, x6.t, b7⟩ : It) = R by
    rw [← hR]
    unfold itemP
    have e1 : onlyP [(1, hrefS)] x.ks = (x1, b1) := hq1
    have e2 : onlyP [(1, statusS)] x.ks = (x2, b2) := hq2
    have e3 : onlyP [(1, pstatS)] x.ks = (x3, b3) := hq3
    have e4 : onlyP [(1, propS)] x3.ks = (x4, b4) := hq4
    have e5 : onlyP [(1, etagS)] x4.ks = (x5, b5) := hq5
    have e6 : onlyP [(2, addrS)] x4.ks = (x6, b6) := hq6
    have e7 : onlyP [(1, rtypeS)] x4.ks = (x7, b7) := hq7
    simp only [e1, e2, e3, e4, e5, e6, e7])
  rw [hR]
  have cO1 := Lib.hid cO1
  have tx1 := Lib.hid (sv_str hE1.tx)
  have cO2 := Lib.hid cO2
  have tx2 := Lib.hid (sv_str hE2.tx)
  have cO3 := Lib.hid cO3
  have tx3 := Lib.hid (sv_str hE3.tx)
  have cO4 := Lib.hid cO4
  have tx4 := Lib.hid (sv_str hE4.tx)
  have cO5 := Lib.hid cO5
  have tx5 := Lib.hid (sv_str hE5.tx)
  have cO6 := Lib.hid cO6
  have tx6 := Lib.hid (sv_str hE6.tx)
  have cO7 := Lib.hid cO7
  have tx7 := Lib.hid (sv_str hE7.tx)
  clear hR hE hE1 hq1 hE2 hq2 hE3 hq3 hE4 hq4 hE5 hq5 hE6 hq6 hE7 hq7
  obtain ⟨wB, hwB⟩ : ∃ wB, (w.alloc (.cells #[.int .i64 x.s, .string nb, .string tb, .slice A n c] 59)).alloc (.cells #[.string ⟨#[]⟩, .bool false, .string ⟨#[]⟩, .string ⟨#[]⟩, .bool false] 79) = wB := ⟨_, rfl⟩
  have hbB : Below w.heap.size w wB := by rw [← hwB]; exact ((Below.refl _ _).alloc (Nat.le_refl _) _).alloc (by simp) _
  have hpB := Lib.hid (show wB.heap[w.heap.size]? = some (elB x.s nb tb (.slice A n c)) by rw [← hwB]; exact heap_alloc2_old w _ _)
  have hrB := Lib.hid (show wB.heap[w.heap.size + 1]? = some (.cells #[.string ⟨#[]⟩, .bool false, .string ⟨#[]⟩, .string ⟨#[]⟩, .bool false] 79 (0, 0)) by rw [← hwB]; exact heap_alloc2_new w _ _)
  have hbe_wB := Lib.hid (hW.trans (hbB.mono hW.size))
  have hbw_wB := Lib.hid hbB
  clear hbB hW
  go_enter Tryz.func63, Tryz.ntmps63
  go_wp2
  go_upto_region 1 with fail
  go_cut [3, 4] from 17 to 23 (fun sp sq wx => ∃ g, sp = .pointer (some ⟨g, 0, none⟩) ∧ sq = .bool b1 ∧ Hid (wB.heap.size ≤ g) ∧ Hid (wx.heap[g]? = some (elB x1.s nb1 tb1 (.slice A1 n1 c1))) ∧ Hid (Below wB.heap.size wB wx))
  case first =>
    rename_i J K' hJ hK'
    refine Rg.region_inv (by kernel_rfl) I1.sl (by decide) (by kernel_rfl) (I1.I wB x.s x1.s nb tb nb1 tb1 A A1 n c n1 c1 b1) ?_ ?_ ?_
    · exact I1.N.start (Below.drew (Below.refl _ _))
    · exact ⟨I1.st0 rfl rfl rfl _ rfl (fun W hW => blk_at hpB.out hW), I1.st1 rfl rfl rfl, I1.stB rfl rfl rfl (by show 75 ≤ 75; omega) (by decide), I1.stC rfl rfl rfl (by show 75 ≤ 75; omega) (by decide) (by decide) (fun W v hW hn => cO1.out W v (hbe_wB.out.trans (hW.mono hbe_wB.out.size)) hn), I1.stM rfl rfl rfl (by show 75 ≤ 75; omega) (by decide), I1.stX rfl rfl rfl (by show 75 ≤ 75; omega) (by decide), I1.stY rfl rfl rfl (by show 75 ≤ 75; omega) (by decide), I1.stP rfl rfl rfl, I1.stS rfl rfl rfl (by show 75 ≤ 75; omega) (by decide) (by decide), I1.stQ rfl rfl rfl (by show 75 ≤ 75; omega) (by decide), trivial⟩
    · rintro d u W ⟨g, h⟩ hall
      obtain ⟨r1, r2, r3⟩ := h.fP (hall 7 (by decide))
      rw [hall 8 (by decide)] at r3
      have r4 := h.fQ (hall 9 (by decide))
      have r5 := h.bel
      clear h hall
      show K' _ _
      refine hK' _ _ (Met.intro (hJ _ _ ?_))
      unfold Rg.puts I1.sl
      simp only [List.foldl_cons, List.foldl_nil, Act.put, List.setIfInBounds_toArray, List.set_cons_succ, List.set_cons_zero]
      repeat apply Exists.intro
      refine ⟨?relI1, rfl⟩
      exact ⟨g, r1, r4, Lib.hid r2, Lib.hid r3, Lib.hid r5⟩
  case rest =>
    obtain ⟨g1, rfl, rfl, hg1, hx1, hbc⟩ := hcut
    obtain ⟨w1, rfl⟩ : ∃ q, q = wc := ⟨_, rfl⟩
    have hbe_w1 := Lib.hid (hbe_wB.out.trans (hbc.out.mono hbe_wB.out.size))
    have hbw_w1 := Lib.hid (hbw_wB.out.trans (hbc.out.mono hbw_wB.out.size))
    have hgw1 := Lib.hid (show w.heap.size ≤ g1 from Nat.le_trans hbw_wB.out.size hg1.out)
    have hp1 := Lib.hid (blk_at hpB.out hbc.out)
    have hr1 := Lib.hid (blk_at hrB.out hbc.out)
    have h11 := hx1
    clear hbc hx1 hg1 hbe_wB hbw_wB hpB hrB
    go_upto_region 2 with fail
    go_cut [5, 6] from 24 to 30 (fun sp sq wx => ∃ g, sp = .pointer (some ⟨g, 0, none⟩) ∧ sq = .bool b2 ∧ Hid (w1.heap.size ≤ g) ∧ Hid (wx.heap[g]? = some (elB x2.s nb2 tb2 (.slice A2 n2 c2))) ∧ Hid (Below w1.heap.size w1 wx))
    case first =>
      rename_i J K' hJ hK'
      refine Rg.region_inv (by kernel_rfl) I2.sl (by decide) (by kernel_rfl) (I2.I w1 x.s x2.s nb tb nb2 tb2 A A2 n c n2 c2 b2) ?_ ?_ ?_
      · exact I2.N.start (Below.drew (Below.refl _ _))
      · exact ⟨I2.st0 rfl rfl rfl _ rfl (fun W hW => blk_at hp1.out hW), I2.st1 rfl rfl rfl, I2.stB rfl rfl rfl (by show 75 ≤ 75; omega) (by decide), I2.stC rfl rfl rfl (by show 75 ≤ 75; omega) (by decide) (by decide) (fun W v hW hn => cO2.out W v (hbe_w1.out.trans (hW.mono hbe_w1.out.size)) hn), I2.stM rfl rfl rfl (by show 75 ≤ 75; omega) (by decide), I2.stX rfl rfl rfl (by show 75 ≤ 75; omega) (by decide), I2.stY rfl rfl rfl (by show 75 ≤ 75; omega) (by decide), I2.stP rfl rfl rfl, I2.stS rfl rfl rfl (by show 75 ≤ 75; omega) (by decide) (by decide), I2.stQ rfl rfl rfl (by show 75 ≤ 75; omega) (by decide), trivial⟩
      · rintro d u W ⟨g, h⟩ hall
        obtain ⟨r1, r2, r3⟩ := h.fP (hall 7 (by decide))
        rw [hall 8 (by decide)] at r3
        have r4 := h.fQ (hall 9 (by decide))
        have r5 := h.bel
        clear h hall
        show K' _ _
        refine hK' _ _ (Met.intro (hJ _ _ ?_))
        unfold Rg.puts I2.sl
        simp only [List.foldl_cons, List.foldl_nil, Act.put, List.setIfInBounds_toArray, List.set_cons_succ, List.set_cons_zero]
        repeat apply Exists.intro
        refine ⟨?relI2, rfl⟩
        exact ⟨g, r1, r4, Lib.hid r2, Lib.hid r3, Lib.hid r5⟩
    case rest =>
      obtain ⟨g2, rfl, rfl, hg2, hx2, hbc⟩ := hcut
      obtain ⟨w2, rfl⟩ : ∃ q, q = wc := ⟨_, rfl⟩
      have hbe_w2 := Lib.hid (hbe_w1.out.trans (hbc.out.mono hbe_w1.out.size))
      have hbw_w2 := Lib.hid (hbw_w1.out.trans (hbc.out.mono hbw_w1.out.size))
      have hgw2 := Lib.hid (show w.heap.size ≤ g2 from Nat.le_trans hbw_w1.out.size hg2.out)
      have hp2 := Lib.hid (blk_at hp1.out hbc.out)
      have hr2 := Lib.hid (blk_at hr1.out hbc.out)
      have h12 := Lib.hid (blk_at h11.out hbc.out)
      have h22 := hx2
      clear hbc hx2 hg2 hbe_w1 hbw_w1 hp1 hr1 h11
      go_upto_region 3 with fail
      go_cut [7, 8] from 31 to 37 (fun sp sq wx => ∃ g, sp = .pointer (some ⟨g, 0, none⟩) ∧ sq = .bool b3 ∧ Hid (w2.heap.size ≤ g) ∧ Hid (wx.heap[g]? = some (elB x3.s nb3 tb3 (.slice A3 n3 c3))) ∧ Hid (Below w2.heap.size w2 wx))
      case first =>
        rename_i J K' hJ hK'
        refine Rg.region_inv (by kernel_rfl) I3.sl (by decide) (by kernel_rfl) (I3.I w2 x.s x3.s nb tb nb3 tb3 A A3 n c n3 c3 b3) ?_ ?_ ?_
        · exact I3.N.start (Below.drew (Below.refl _ _))
        · exact ⟨I3.st0 rfl rfl rfl _ rfl (fun W hW => blk_at hp2.out hW), I3.st1 rfl rfl rfl, I3.stB rfl rfl rfl (by show 75 ≤ 75; omega) (by decide), I3.stC rfl rfl rfl (by show 75 ≤ 75; omega) (by decide) (by decide) (fun W v hW hn => cO3.out W v (hbe_w2.out.trans (hW.mono hbe_w2.out.size)) hn), I3.stM rfl rfl rfl (by show 75 ≤ 75; omega) (by decide), I3.stX rfl rfl rfl (by show 75 ≤ 75; omega) (by decide), I3.stY rfl rfl rfl (by show 75 ≤ 75; omega) (by decide), I3.stP rfl rfl rfl, I3.stS rfl rfl rfl (by show 75 ≤ 75; omega) (by decide) (by decide), I3.stQ rfl rfl rfl (by show 75 ≤ 75; omega) (by decide), trivial⟩
        · rintro d u W ⟨g, h⟩ hall
          obtain ⟨r1, r2, r3⟩ := h.fP (hall 7 (by decide))
          rw [hall 8 (by decide)] at r3
          have r4 := h.fQ (hall 9 (by decide))
          have r5 := h.bel
          clear h hall
          show K' _ _
          refine hK' _ _ (Met.intro (hJ _ _ ?_))
          unfold Rg.puts I3.sl
          simp only [List.foldl_cons, List.foldl_nil, Act.put, List.setIfInBounds_toArray, List.set_cons_succ, List.set_cons_zero]
          repeat apply Exists.intro
          refine ⟨?relI3, rfl⟩
          exact ⟨g, r1, r4, Lib.hid r2, Lib.hid r3, Lib.hid r5⟩
      case rest =>
        obtain ⟨g3, rfl, rfl, hg3, hx3, hbc⟩ := hcut
        obtain ⟨w3, rfl⟩ : ∃ q, q = wc := ⟨_, rfl⟩
        have hbe_w3 := Lib.hid (hbe_w2.out.trans (hbc.out.mono hbe_w2.out.size))
        have hbw_w3 := Lib.hid (hbw_w2.out.trans (hbc.out.mono hbw_w2.out.size))
        have hgw3 := Lib.hid (show w.heap.size ≤ g3 from Nat.le_trans hbw_w2.out.size hg3.out)
        have hp3 := Lib.hid (blk_at hp2.out hbc.out)
        have hr3 := Lib.hid (blk_at hr2.out hbc.out)
        have h13 := Lib.hid (blk_at h12.out hbc.out)
        have h23 := Lib.hid (blk_at h22.out hbc.out)
        have h33 := hx3
        clear hbc hx3 hg3 hbe_w2 hbw_w2 hp2 hr2 h12 h22
        go_upto_region 4 with fail
        go_cut [9, 10] from 38 to 44 (fun sp sq wx => ∃ g, sp = .pointer (some ⟨g, 0, none⟩) ∧ sq = .bool b4 ∧ Hid (w3.heap.size ≤ g) ∧ Hid (wx.heap[g]? = some (elB x4.s nb4 tb4 (.slice A4 n4 c4))) ∧ Hid (Below w3.heap.size w3 wx))
        case first =>
          rename_i J K' hJ hK'
          refine Rg.region_inv (by kernel_rfl) I4.sl (by decide) (by kernel_rfl) (I4.I w3 x3.s x4.s nb3 tb3 nb4 tb4 A3 A4 n3 c3 n4 c4 b4) ?_ ?_ ?_
          · exact I4.N.start (Below.drew (Below.refl _ _))
          · exact ⟨I4.st0 rfl rfl rfl _ rfl (fun W hW => blk_at h33.out hW), I4.st1 rfl rfl rfl, I4.stB rfl rfl rfl (by show 75 ≤ 75; omega) (by decide), I4.stC rfl rfl rfl (by show 75 ≤ 75; omega) (by decide) (by decide) (fun W v hW hn => cO4.out W v (hbe_w3.out.trans (hW.mono hbe_w3.out.size)) hn), I4.stM rfl rfl rfl (by show 75 ≤ 75; omega) (by decide), I4.stX rfl rfl rfl (by show 75 ≤ 75; omega) (by decide), I4.stY rfl rfl rfl (by show 75 ≤ 75; omega) (by decide), I4.stP rfl rfl rfl, I4.stS rfl rfl rfl (by show 75 ≤ 75; omega) (by decide) (by decide), I4.stQ rfl rfl rfl (by show 75 ≤ 75; omega) (by decide), trivial⟩
          · rintro d u W ⟨g, h⟩ hall
            obtain ⟨r1, r2, r3⟩ := h.fP (hall 7 (by decide))
            rw [hall 8 (by decide)] at r3
            have r4 := h.fQ (hall 9 (by decide))
            have r5 := h.bel
            clear h hall
            show K' _ _
            refine hK' _ _ (Met.intro (hJ _ _ ?_))
            unfold Rg.puts I4.sl
            simp only [List.foldl_cons, List.foldl_nil, Act.put, List.setIfInBounds_toArray, List.set_cons_succ, List.set_cons_zero]
            repeat apply Exists.intro
            refine ⟨?relI4, rfl⟩
            exact ⟨g, r1, r4, Lib.hid r2, Lib.hid r3, Lib.hid r5⟩
        case rest =>
          obtain ⟨g4, rfl, rfl, hg4, hx4, hbc⟩ := hcut
          obtain ⟨w4, rfl⟩ : ∃ q, q = wc := ⟨_, rfl⟩
          have hbe_w4 := Lib.hid (hbe_w3.out.trans (hbc.out.mono hbe_w3.out.size))
          have hbw_w4 := Lib.hid (hbw_w3.out.trans (hbc.out.mono hbw_w3.out.size))
          have hgw4 := Lib.hid (show w.heap.size ≤ g4 from Nat.le_trans hbw_w3.out.size hg4.out)
          have hp4 := Lib.hid (blk_at hp3.out hbc.out)
          have hr4 := Lib.hid (blk_at hr3.out hbc.out)
          have h14 := Lib.hid (blk_at h13.out hbc.out)
          have h24 := Lib.hid (blk_at h23.out hbc.out)
          have h34 := Lib.hid (blk_at h33.out hbc.out)
          have h44 := hx4
          clear hbc hx4 hg4 hbe_w3 hbw_w3 hp3 hr3 h13 h23 h33
          go_upto_region 5 with fail
          go_cut [11, 12] from 45 to 51 (fun sp sq wx => ∃ g, sp = .pointer (some ⟨g, 0, none⟩) ∧ sq = .bool b5 ∧ Hid (w4.heap.size ≤ g) ∧ Hid (wx.heap[g]? = some (elB x5.s nb5 tb5 (.slice A5 n5 c5))) ∧ Hid (Below w4.heap.size w4 wx))
          case first =>
            rename_i J K' hJ hK'
            refine Rg.region_inv (by kernel_rfl) I5.sl (by decide) (by kernel_rfl) (I5.I w4 x4.s x5.s nb4 tb4 nb5 tb5 A4 A5 n4 c4 n5 c5 b5) ?_ ?_ ?_
            · exact I5.N.start (Below.drew (Below.refl _ _))
            · exact ⟨I5.st0 rfl rfl rfl _ rfl (fun W hW => blk_at h44.out hW), I5.st1 rfl rfl rfl, I5.stB rfl rfl rfl (by show 75 ≤ 75; omega) (by decide), I5.stC rfl rfl rfl (by show 75 ≤ 75; omega) (by decide) (by decide) (fun W v hW hn => cO5.out W v (hbe_w4.out.trans (hW.mono hbe_w4.out.size)) hn), I5.stM rfl rfl rfl (by show 75 ≤ 75; omega) (by decide), I5.stX rfl rfl rfl (by show 75 ≤ 75; omega) (by decide), I5.stY rfl rfl rfl (by show 75 ≤ 75; omega) (by decide), I5.stP rfl rfl rfl, I5.stS rfl rfl rfl (by show 75 ≤ 75; omega) (by decide) (by decide), I5.stQ rfl rfl rfl (by show 75 ≤ 75; omega) (by decide), trivial⟩
            · rintro d u W ⟨g, h⟩ hall
              obtain ⟨r1, r2, r3⟩ := h.fP (hall 7 (by decide))
              rw [hall 8 (by decide)] at r3
              have r4 := h.fQ (hall 9 (by decide))
              have r5 := h.bel
              clear h hall
              show K' _ _
              refine hK' _ _ (Met.intro (hJ _ _ ?_))
              unfold Rg.puts I5.sl
              simp only [List.foldl_cons, List.foldl_nil, Act.put, List.setIfInBounds_toArray, List.set_cons_succ, List.set_cons_zero]
              repeat apply Exists.intro
              refine ⟨?relI5, rfl⟩
              exact ⟨g, r1, r4, Lib.hid r2, Lib.hid r3, Lib.hid r5⟩
          case rest =>
            obtain ⟨g5, rfl, rfl, hg5, hx5, hbc⟩ := hcut
            obtain ⟨w5, rfl⟩ : ∃ q, q = wc := ⟨_, rfl⟩
            have hbe_w5 := Lib.hid (hbe_w4.out.trans (hbc.out.mono hbe_w4.out.size))
            have hbw_w5 := Lib.hid (hbw_w4.out.trans (hbc.out.mono hbw_w4.out.size))
            have hgw5 := Lib.hid (show w.heap.size ≤ g5 from Nat.le_trans hbw_w4.out.size hg5.out)
            have hp5 := Lib.hid (blk_at hp4.out hbc.out)
            have hr5 := Lib.hid (blk_at hr4.out hbc.out)
            have h15 := Lib.hid (blk_at h14.out hbc.out)
            have h25 := Lib.hid (blk_at h24.out hbc.out)
            have h35 := Lib.hid (blk_at h34.out hbc.out)
            have h45 := Lib.hid (blk_at h44.out hbc.out)
            have h55 := hx5
            clear hbc hx5 hg5 hbe_w4 hbw_w4 hp4 hr4 h14 h24 h34 h44
            go_upto_region 6 with fail
            go_cut [13, 14] from 52 to 58 (fun sp sq wx => ∃ g, sp = .pointer (some ⟨g, 0, none⟩) ∧ sq = .bool b6 ∧ Hid (w5.heap.size ≤ g) ∧ Hid (wx.heap[g]? = some (elB x6.s nb6 tb6 (.slice A6 n6 c6))) ∧ Hid (Below w5.heap.size w5 wx))
            case first =>
              rename_i J K' hJ hK'
              refine Rg.region_inv (by kernel_rfl) I6.sl (by decide) (by kernel_rfl) (I6.I w5 x4.s x6.s nb4 tb4 nb6 tb6 A4 A6 n4 c4 n6 c6 b6) ?_ ?_ ?_
              · exact I6.N.start (Below.drew (Below.refl _ _))
              · exact ⟨I6.st0 rfl rfl rfl _ rfl (fun W hW => blk_at h45.out hW), I6.st1 rfl rfl rfl, I6.stB rfl rfl rfl (by show 75 ≤ 75; omega) (by decide), I6.stC rfl rfl rfl (by show 75 ≤ 75; omega) (by decide) (by decide) (fun W v hW hn => cO6.out W v (hbe_w5.out.trans (hW.mono hbe_w5.out.size)) hn), I6.stM rfl rfl rfl (by show 75 ≤ 75; omega) (by decide), I6.stX rfl rfl rfl (by show 75 ≤ 75; omega) (by decide), I6.stY rfl rfl rfl (by show 75 ≤ 75; omega) (by decide), I6.stP rfl rfl rfl, I6.stS rfl rfl rfl (by show 75 ≤ 75; omega) (by decide) (by decide), I6.stQ rfl rfl rfl (by show 75 ≤ 75; omega) (by decide), trivial⟩
              · rintro d u W ⟨g, h⟩ hall
                obtain ⟨r1, r2, r3⟩ := h.fP (hall 7 (by decide))
                rw [hall 8 (by decide)] at r3
                have r4 := h.fQ (hall 9 (by decide))
                have r5 := h.bel
                clear h hall
                show K' _ _
                refine hK' _ _ (Met.intro (hJ _ _ ?_))
                unfold Rg.puts I6.sl
                simp only [List.foldl_cons, List.foldl_nil, Act.put, List.setIfInBounds_toArray, List.set_cons_succ, List.set_cons_zero]
                repeat apply Exists.intro
                refine ⟨?relI6, rfl⟩
                exact ⟨g, r1, r4, Lib.hid r2, Lib.hid r3, Lib.hid r5⟩
            case rest =>
              obtain ⟨g6, rfl, rfl, hg6, hx6, hbc⟩ := hcut
              obtain ⟨w6, rfl⟩ : ∃ q, q = wc := ⟨_, rfl⟩
              have hbe_w6 := Lib.hid (hbe_w5.out.trans (hbc.out.mono hbe_w5.out.size))
              have hbw_w6 := Lib.hid (hbw_w5.out.trans (hbc.out.mono hbw_w5.out.size))
              have hgw6 := Lib.hid (show w.heap.size ≤ g6 from Nat.le_trans hbw_w5.out.size hg6.out)
              have hp6 := Lib.hid (blk_at hp5.out hbc.out)
              have hr6 := Lib.hid (blk_at hr5.out hbc.out)
              have h16 := Lib.hid (blk_at h15.out hbc.out)
              have h26 := Lib.hid (blk_at h25.out hbc.out)
              have h36 := Lib.hid (blk_at h35.out hbc.out)
              have h46 := Lib.hid (blk_at h45.out hbc.out)
              have h56 := Lib.hid (blk_at h55.out hbc.out)
              have h66 := hx6
              clear hbc hx6 hg6 hbe_w5 hbw_w5 hp5 hr5 h15 h25 h35 h45 h55
              go_upto_region 7 with fail
              go_cut [15, 16] from 59 to 65 (fun sp sq wx => ∃ g, sp = .pointer (some ⟨g, 0, none⟩) ∧ sq = .bool b7 ∧ Hid (w6.heap.size ≤ g) ∧ Hid (wx.heap[g]? = some (elB x7.s nb7 tb7 (.slice A7 n7 c7))) ∧ Hid (Below w6.heap.size w6 wx))
              case first =>
                rename_i J K' hJ hK'
                refine Rg.region_inv (by kernel_rfl) I7.sl (by decide) (by kernel_rfl) (I7.I w6 x4.s x7.s nb4 tb4 nb7 tb7 A4 A7 n4 c4 n7 c7 b7) ?_ ?_ ?_
                · exact I7.N.start (Below.drew (Below.refl _ _))
                · exact ⟨I7.st0 rfl rfl rfl _ rfl (fun W hW => blk_at h46.out hW), I7.st1 rfl rfl rfl, I7.stB rfl rfl rfl (by show 75 ≤ 75; omega) (by decide), I7.stC rfl rfl rfl (by show 75 ≤ 75; omega) (by decide) (by decide) (fun W v hW hn => cO7.out W v (hbe_w6.out.trans (hW.mono hbe_w6.out.size)) hn), I7.stM rfl rfl rfl (by show 75 ≤ 75; omega) (by decide), I7.stX rfl rfl rfl (by show 75 ≤ 75; omega) (by decide), I7.stY rfl rfl rfl (by show 75 ≤ 75; omega) (by decide), I7.stP rfl rfl rfl, I7.stS rfl rfl rfl (by show 75 ≤ 75; omega) (by decide) (by decide), I7.stQ rfl rfl rfl (by show 75 ≤ 75; omega) (by decide), trivial⟩
                · rintro d u W ⟨g, h⟩ hall
                  obtain ⟨r1, r2, r3⟩ := h.fP (hall 7 (by decide))
                  rw [hall 8 (by decide)] at r3
                  have r4 := h.fQ (hall 9 (by decide))
                  have r5 := h.bel
                  clear h hall
                  show K' _ _
                  refine hK' _ _ (Met.intro (hJ _ _ ?_))
                  unfold Rg.puts I7.sl
                  simp only [List.foldl_cons, List.foldl_nil, Act.put, List.setIfInBounds_toArray, List.set_cons_succ, List.set_cons_zero]
                  repeat apply Exists.intro
                  refine ⟨?relI7, rfl⟩
                  exact ⟨g, r1, r4, Lib.hid r2, Lib.hid r3, Lib.hid r5⟩
              case rest =>
                obtain ⟨g7, rfl, rfl, hg7, hx7, hbc⟩ := hcut
                obtain ⟨w7, rfl⟩ : ∃ q, q = wc := ⟨_, rfl⟩
                have hbe_w7 := Lib.hid (hbe_w6.out.trans (hbc.out.mono hbe_w6.out.size))
                have hbw_w7 := Lib.hid (hbw_w6.out.trans (hbc.out.mono hbw_w6.out.size))
                have hgw7 := Lib.hid (show w.heap.size ≤ g7 from Nat.le_trans hbw_w6.out.size hg7.out)
                have hp7 := Lib.hid (blk_at hp6.out hbc.out)
                have hr7 := Lib.hid (blk_at hr6.out hbc.out)
                have h17 := Lib.hid (blk_at h16.out hbc.out)
                have h27 := Lib.hid (blk_at h26.out hbc.out)
                have h37 := Lib.hid (blk_at h36.out hbc.out)
                have h47 := Lib.hid (blk_at h46.out hbc.out)
                have h57 := Lib.hid (blk_at h56.out hbc.out)
                have h67 := Lib.hid (blk_at h66.out hbc.out)
                have h77 := hx7
                clear hbc hx7 hg7 hbe_w6 hbw_w6 hp6 hr6 h16 h26 h36 h46 h56 h66
                obtain ⟨_, _, k1, _, _, _, _, _, z1⟩ := cellsE h17.out
                obtain ⟨_, _, k5, _, _, _, _, _, z5⟩ := cellsE h57.out
                obtain ⟨_, _, k6, _, _, _, _, _, z6⟩ := cellsE h67.out
                obtain ⟨r0, r1, r2, r3, r4⟩ := itm hr7.out
                have f0 := Lib.frozen_of_heap hr7.out 0
                have f1 := Lib.frozen_of_heap hr7.out 1
                have f2 := Lib.frozen_of_heap hr7.out 2
                have f3 := Lib.frozen_of_heap hr7.out 3
                have f4 := Lib.frozen_of_heap hr7.out 4
                have hZ : w.heap.size + 1 < w7.heap.size := (Array.getElem?_eq_some_iff.1 hr7.out).1
                obtain ⟨wf, hwf⟩ : ∃ wf, ((((w7.setCell ⟨w.heap.size + 1, 0, none⟩ (.string tb1)).setCell ⟨w.heap.size + 1, 1, none⟩ (.bool b2)).setCell ⟨w.heap.size + 1, 2, none⟩ (.string tb5)).setCell ⟨w.heap.size + 1, 3, none⟩ (.string tb6)).setCell ⟨w.heap.size + 1, 4, none⟩ (.bool b7) = wf := ⟨_, rfl⟩
                have hfb := Lib.hid (show Below w.heap.size w wf by
                  rw [← hwf]
                  have hz : w.heap.size ≤ w.heap.size + 1 := by omega
                  exact ((((hbw_w7.out.setCell (p := ⟨w.heap.size + 1, 0, none⟩) hz _).setCell (p := ⟨w.heap.size + 1, 1, none⟩) hz _).setCell (p := ⟨w.heap.size + 1, 2, none⟩) hz _).setCell (p := ⟨w.heap.size + 1, 3, none⟩) hz _).setCell (p := ⟨w.heap.size + 1, 4, none⟩) hz _)
                have hfc : wf.heap[w.heap.size + 1]? = some (.cells #[.string tb1, .bool b2, .string tb5, .string tb6, .bool b7] 79 (0, 0)) := by
                  rw [← hwf]; simp [World.setCell, Array.getElem?_modify, hr7.out]
                obtain ⟨y0, y1, y2, y3, y4⟩ := itm hfc
                clear hfc
                go_wp2
                exact bodyPost_ret (v := .agg #[.string tb1, .bool b2, .string tb5, .string tb6, .bool b7]) (by simp [results, Tryz.results63, go_sem, y0, y1, y2, y3, y4]) rfl ⟨⟨tb1, tb5, tb6, by rw [← hR'.out], by rw [← hR'.out]; exact tx1.out, by rw [← hR'.out]; exact tx5.out, by rw [← hR'.out]; exact tx6.out⟩, hfb.out⟩
end Go.Proofs.YtmmpojhjpghdlaaGreatDoor.Dv

/-
  THE REGIONS OF dav.toldOf: the elements named are found (RegMono); an item more (by an invariant).
-/
set_option linter.unusedVariables false
namespace Go.Proofs.YtmmpojhjpghdlaaGreatDoor.Dv
open Go.Lib Go.RowKit Rg
open Xm (Row Pc sv PsOwn PcsAt below_then sv_some sv_str info_parts)

def itV (i : It) : Value := .agg #[sv i.href, .bool i.gone, sv i.tag, sv i.data, .bool i.book]
theorem itemOf_v {w0 : World} {x : El} {nb tb : ByteArray} {A : Option Addr} {n c : Nat} (hE : ElB w0 x nb tb A n c) (w : World) (hW : Below w0.heap.size w0 w) :
    Calls Tryz.prog 63 #[.agg #[.int .i64 x.s, .string nb, .string tb, .slice A n c]] w fun e w' => e = .returned (itV (itemP x)) ∧ Below w.heap.size w w' := by
  refine (itemOf_any hE w hW).mono ?_
  rintro e w' ⟨⟨a0, a2, a3, rfl, d0, d2, d3⟩, hb⟩
  refine ⟨?_, hb⟩
  unfold itV
  rw [← d0, ← d2, ← d3, Xm.sv_data, Xm.sv_data, Xm.sv_data]
theorem named_el {w0 : World} {x : El} {nb tb : ByteArray} {A : Option Addr} {n c : Nat} (h : ElB w0 x nb tb A n c) (ns : List NB) :
    ∃ L, Pairs w0 L (nmd (ns.map nmR) x.ks) ∧ ∀ (W : World) (v : Value), Below w0.heap.size w0 W → NmsAt W v ns → Calls Tryz.prog 62 #[.agg #[.int .i64 x.s, .string nb, .string tb, .slice A n c], v] W fun e w' => (∃ v', e = .returned v' ∧ EsOwn W.heap.size v' L w') ∧ Below W.heap.size W w' := by
  obtain ⟨L, h1, h2⟩ := h.kids.pairs
  exact ⟨namedV ns L, h2.filter (ns := ns), fun W v hW hn => named_any x.s nb tb (.slice A n c) v L ns W (h1.same hW.size fun k _ hk => hW.block k hk) h2.forms (by have := h.sm.len; have := h2.1; omega) hn⟩
theorem EsOwn.less {B B' : Nat} {v : Value} {es : List EV} {w : World} (h : EsOwn B v es w) (hb : B' ≤ B) : EsOwn B' v es w := Xm.ownsRow_less h hb
theorem EsOwn.form {B : Nat} {v : Value} {es : List EV} {w : World} (h : EsOwn B v es w) : ∃ A c, v = .slice A es.length c := Xm.ownsRow_form h

/-! ### the elements that are named -/
section
variable {Q : Exit → Act → World → Prop} {a : Act} {sl : List Nat} {w1 : World} {F : Nat → Value → World → Prop} {i s : Nat} {o : Oper}
set_option maxRecDepth 100000 in
theorem ldEl (hg : o.guard = none) (hs : sl[i]? = some s) (hds : o.dst = some s) {t : Nat} (hop : o.op = .load 59 (.tmp t)) (ht : sl.contains t = false) (gs : Nat) (hv : a.eval (.tmp t) = .pointer (some ⟨gs, 0, none⟩)) (sp : Int) (nb tb : ByteArray) (A : Option Addr) (n c : Nat) (hc : ∀ W, Below w1.heap.size w1 W → W.heap[gs]? = some (elB sp nb tb (.slice A n c))) (hF : ∀ W, F i (.agg #[.int .i64 sp, .string nb, .string tb, .slice A n c]) W) : MonoAt Tryz.prog Q a sl w1 F i o := by
  refine MonoAt.yields hg hs hds fun u W hW hd => ⟨_, W, ?_, Below.refl _ _, hF W⟩
  have e1 := eval_old (u := u) ht hv
  obtain ⟨x0, x1, x2, x3, _⟩ := cellsE (hc W hW)
  clear hc hd hF
  simp only [execOp, hop, e1]
  go_simp
set_option maxRecDepth 100000 in
theorem bsNm (hg : o.guard = none) (hs : sl[i]? = some s) (hds : o.dst = some s) {k t : Nat} (hop : o.op = .buildSlice 27 1 #[(0, .tmp t)]) (hk : k ∈ deps o) (ht : sl[k]? = some t) (sp : Int) (n : ByteArray) (h1 : ∀ v W, F k v W → v = .agg #[.int .i64 sp, .string n]) (hF : ∀ W v, NmsAt W v [(sp, n)] → F i v W) : MonoAt Tryz.prog Q a sl w1 F i o := by
  refine MonoAt.yields hg hs hds fun u W hW hd => ?_
  obtain ⟨e1, m1⟩ := had hd hk ht
  rw [h1 _ _ m1] at e1
  refine ⟨_, _, ?_, (Below.refl _ _).alloc (Nat.le_refl _) _, hF _ _ (nms1 W sp n)⟩
  clear hd hF h1 m1
  simp only [execOp, hop, List.map_toArray, List.map_cons, List.map_nil, e1]
  go_simp
set_option maxRecDepth 100000 in
theorem ndCall (hg : o.guard = none) (hs : sl[i]? = some s) (hds : o.dst = some s) {k t k' t' : Nat} (hop : o.op = .call { callee := .value (.func 62), args := #[.tmp t, .tmp t'], argTypes := #[59, 27] }) (hk : k ∈ deps o) (ht : sl[k]? = some t) (hk' : k' ∈ deps o) (ht' : sl[k']? = some t') (sp : Int) (nb tb : ByteArray) (A : Option Addr) (n c : Nat) (ns : List NB) (L : List EV)
    (h1 : ∀ v W, F k v W → v = .agg #[.int .i64 sp, .string nb, .string tb, .slice A n c]) (h2 : ∀ v W, F k' v W → NmsAt W v ns)
    (cN : ∀ W v, Below w1.heap.size w1 W → NmsAt W v ns → Calls Tryz.prog 62 #[.agg #[.int .i64 sp, .string nb, .string tb, .slice A n c], v] W fun e w' => (∃ v', e = .returned v' ∧ EsOwn W.heap.size v' L w') ∧ Below W.heap.size W w')
    (hF : ∀ W v, EsOwn w1.heap.size v L W → F i v W) : MonoAt Tryz.prog Q a sl w1 F i o := by
  refine MonoAt.calls hg hs hds fun u W hW hd => ?_
  obtain ⟨e1, m1⟩ := had hd hk ht
  obtain ⟨e2, m2⟩ := had hd hk' ht'
  rw [h1 _ _ m1] at e1
  have hn := h2 _ _ m2
  refine ⟨62, #[.agg #[.int .i64 sp, .string nb, .string tb, .slice A n c], u t'], ?_, (cN W _ hW hn).mono ?_⟩
  · obtain ⟨b, hb, _⟩ := hn
    rw [hb] at e2 ⊢
    replace e1 := tmpE e1
    replace e2 := tmpE e2
    clear hd hF h1 h2 m1 m2 cN
    simp only [execOp, hop]
    go_simp
  · rintro e w' ⟨⟨v, rfl, hv⟩, hb⟩
    exact ⟨⟨_, rfl, hF _ _ (hv.less hW.size)⟩, hb⟩
set_option maxRecDepth 100000 in
theorem lenEs (hg : o.guard = none) (hs : sl[i]? = some s) (hds : o.dst = some s) {k t : Nat} (hop : o.op = .call { callee := .builtin .len, args := #[.tmp t], argTypes := #[57] }) (hk : k ∈ deps o) (ht : sl[k]? = some t) (L : List EV) (h1 : ∀ v W, F k v W → ∃ A c, v = .slice A L.length c) (hF : ∀ W, F i (.int .i64 (L.length : Int)) W) : MonoAt Tryz.prog Q a sl w1 F i o := by
  refine MonoAt.yields hg hs hds fun u W hW hd => ⟨.int .i64 (L.length : Int), W, ?_, Below.refl _ _, hF W⟩
  obtain ⟨e1, m1⟩ := had hd hk ht
  obtain ⟨A, c, q⟩ := h1 _ _ m1
  rw [q] at e1
  replace e1 := tmpE e1
  clear hd hF h1 m1
  simp only [execOp, hop]
  go_simp
set_option maxRecDepth 100000 in
theorem mvZero (hg : o.guard = none) (hs : sl[i]? = some s) (hds : o.dst = some s) (hop : o.op = .move (.const (.int .i64 0))) (hF : ∀ W, F i (.int .i64 0) W) : MonoAt Tryz.prog Q a sl w1 F i o := by
  refine MonoAt.yields hg hs hds fun u W hW hd => ⟨.int .i64 0, W, ?_, Below.refl _ _, hF W⟩
  clear hd hF
  simp only [execOp, hop]
  go_simp
end
def FTn (w1 : World) (sp : Int) (nb tb : ByteArray) (A : Option Addr) (n c : Nat) (L : List EV) : Nat → Value → World → Prop
  | 0, v, W => v = .agg #[.int .i64 sp, .string nb, .string tb, .slice A n c]
  | 1, v, W => v = .agg #[.int .i64 1, .string ⟨#[114, 101, 115, 112, 111, 110, 115, 101]⟩]
  | 2, v, W => NmsAt W v [(1, ⟨#[114, 101, 115, 112, 111, 110, 115, 101]⟩)]
  | 3, v, W => EsOwn w1.heap.size v L W
  | 4, v, W => v = .int .i64 (L.length : Int)
  | 5, v, W => v = .int .i64 0
  | _, _, _ => True
theorem FTn_mono (w1 : World) (sp : Int) (nb tb : ByteArray) (A : Option Addr) (n c : Nat) (L : List EV) : ∀ i v W W', FTn w1 sp nb tb A n c L i v W → Below W.heap.size W W' → FTn w1 sp nb tb A n c L i v W'
  | 0, _, _, _, h, _ => h
  | 1, _, _, _, h, _ => h
  | 2, _, _, _, h, hb => NmsAt.kept h hb
  | 3, _, _, _, h, hb => EsOwn.kept h hb
  | 4, _, _, _, h, _ => h
  | 5, _, _, _, h, _ => h
  | _ + 6, _, _, _, _, _ => trivial

/-! ### an item more -/
namespace T5
def sl : List Nat := [17, 18, 19, 20, 21, 22, 23]
/-- what is left: all below B but one block -/
structure Oth (B db : Nat) (w W : World) : Prop where
  os : W.os = w.os
  tape : W.tape = w.tape
  output : W.output = w.output
  size : w.heap.size ≤ W.heap.size
  block : ∀ k, k < B → k ≠ db → W.heap[k]? = w.heap[k]?
theorem Oth.trans {B db : Nat} {a b c : World} (h : Oth B db a b) (k : Oth B db b c) : Oth B db a c := ⟨k.os.trans h.os, k.tape.trans h.tape, k.output.trans h.output, Nat.le_trans h.size k.size, fun i h1 h2 => (k.block i h1 h2).trans (h.block i h1 h2)⟩
theorem Oth.of {B db : Nat} {a b : World} (hB : B ≤ a.heap.size) (h : Below a.heap.size a b) : Oth B db a b := ⟨h.os, h.tape, h.output, h.size, fun k hk _ => h.block k (by omega)⟩
theorem Oth.refl (B db : Nat) (a : World) : Oth B db a a := ⟨rfl, rfl, rfl, Nat.le_refl _, fun _ _ _ => rfl⟩
def tdB (v : Value) (tk : ByteArray) : Obj := .cells #[v, .string tk] 41 (0, 0)
structure N (w1 : World) (B db : Nat) (ov : Value) (Ms : List It) (I : It) (tk x0 x2 x3 : ByteArray) (EEv : Value) (g : Nat) (rv : Value) (d : Nat → Bool) (u : Nat → Value) (W : World) : Prop where
  bel : d 5 = false → Below w1.heap.size w1 W
  oth : Oth B db w1 W
  c4 : d 4 = true → d 3 = true
  c5 : d 5 = true → d 4 = true
  c5b : d 5 = true → d 1 = true
  c5c : d 5 = true → d 3 = true
  c3 : d 3 = true → d 2 = true
  c7 : d 7 = true → d 5 = true
  f0 : d 0 = true → u 17 = .pointer (some ⟨db, 0, none⟩)
  f1 : d 1 = true → u 18 = ov
  f2 : d 2 = true → u 19 = EEv
  f3 : d 3 = true → u 20 = itV I
  f4 : d 4 = true → d 5 = false → u 21 = .slice (some ⟨g, 0, none⟩) 1 1 ∧ W.heap[g]? = some (.cells #[.string x0, .bool I.gone, .string x2, .string x3, .bool I.book] 79 (0, 0))
  f5 : d 5 = true → u 22 = rv
  f6 : d 6 = true → u 23 = .pointer (some ⟨db, 0, none⟩)
  r0 : d 5 = false → rv = ov
  row : IsOwn B rv (bif d 5 then Ms ++ [I] else Ms) W
  box : W.heap[db]? = some (tdB (bif d 7 then rv else ov) tk)
def IT (w1 : World) (B db : Nat) (ov : Value) (Ms : List It) (I : It) (tk x0 x2 x3 : ByteArray) (EEv : Value) (d : Nat → Bool) (u : Nat → Value) (W : World) : Prop := ∃ g rv, N w1 B db ov Ms I tk x0 x2 x3 EEv g rv d u W
section
variable {Q : Exit → Act → World → Prop} {a : Act} {w1 : World} {B db : Nat} {ov : Value} {Ms : List It} {I : It} {tk x0 x2 x3 : ByteArray} {EEv : Value} {g : Nat} {rv : Value} {d : Nat → Bool} {u : Nat → Value} {W : World}
theorem N.kept (hB : B ≤ w1.heap.size) (h : N w1 B db ov Ms I tk x0 x2 x3 EEv g rv d u W) {W' : World} (hb : Below W.heap.size W W') : N w1 B db ov Ms I tk x0 x2 x3 EEv g rv d u W' :=
  { h with
    bel := fun q => below_then (h.bel q) hb
    oth := h.oth.trans (Oth.of (Nat.le_trans hB h.oth.size) hb)
    f4 := fun h1 h2 => have k := h.f4 h1 h2; ⟨k.1, blk_at k.2 hb⟩
    row := h.row.kept hb
    box := blk_at h.box hb }
theorem N.no5 (h : N w1 B db ov Ms I tk x0 x2 x3 EEv g rv d u W) {i : Nat} (hi : i = 1 ∨ i = 2 ∨ i = 3 ∨ i = 4 ∨ i = 5) (h1 : d i = false) : d 5 = false ∧ d 7 = false := by
  have h5 : d 5 = false := by
    cases h5 : d 5 with
    | false => rfl
    | true =>
      have k1 := h.c5b h5
      have k4 := h.c5 h5
      have k3 := h.c4 k4
      have k2 := h.c3 k3
      rcases hi with rfl | rfl | rfl | rfl | rfl
      · rw [h1] at k1; cases k1
      · rw [h1] at k2; cases k2
      · rw [h1] at k3; cases k3
      · rw [h1] at k4; cases k4
      · rw [h1] at h5; cases h5
  refine ⟨h5, ?_⟩
  cases h7 : d 7 with
  | false => rfl
  | true => have := h.c7 h7; rw [h5] at this; cases this
set_option maxRecDepth 100000 in
theorem st0 {o : Oper} (hg : o.guard = none) (hds : o.dst = some 17) (hop : o.op = .fieldAddr 41 (.tmp 3) 0) (h5 : a.eval (.tmp 3) = .pointer (some ⟨db, 0, none⟩)) : StepAt Tryz.prog Q a sl (IT w1 B db ov Ms I tk x0 x2 x3 EEv) 0 o := by
  refine ⟨⟨hg, by rw [hds]; decide⟩, ?_⟩
  rintro d u W ⟨g, rv, h⟩ hd hdep K hK
  rw [hds] at hK
  have e2 := eval_old (u := u) (slots := sl) (by decide) h5
  refine wp_yields (w' := W) hds (.pointer (some ⟨db, 0, none⟩)) ?_ (hK _ _ ⟨g, rv, { h with f0 := fun _ => rfl }⟩)
  clear hK hdep h hd
  simp only [execOp, hop, e2]
  go_simp
set_option maxRecDepth 100000 in
theorem st1 {o : Oper} (hg : o.guard = none) (hds : o.dst = some 18) (hop : o.op = .load 39 (.tmp 17)) (hs : 36 ≤ a.tmps.size) (hda : 0 ∈ deps o) : StepAt Tryz.prog Q a sl (IT w1 B db ov Ms I tk x0 x2 x3 EEv) 1 o := by
  refine ⟨⟨hg, by rw [hds]; decide⟩, ?_⟩
  rintro d u W ⟨g, rv, h⟩ hd hdep K hK
  rw [hds] at hK
  have e2 := eval_new (a := a) (u := u) (slots := sl) (t := 17) (by decide) (by decide) (by omega)
  rw [h.f0 (hdep 0 hda)] at e2
  obtain ⟨h5, h7⟩ := h.no5 (.inl rfl) hd
  obtain ⟨ao, cc, hf⟩ := Xm.ownsRow_form h.row
  rw [h.r0 h5] at hf
  have hbx := h.box
  rw [h7] at hbx
  have hc : W.cell? ⟨db, 0, none⟩ = some ov := (Lib.cell_of_heap hbx 0).trans rfl
  refine wp_yields (w' := W) hds ov ?_ (hK _ _ ⟨g, rv, { h with c5b := fun _ => rfl, f1 := fun _ => rfl }⟩)
  rw [hf] at hc ⊢
  clear hK hdep h hd hbx
  simp only [execOp, hop, e2]
  go_simp
set_option maxRecDepth 100000 in
theorem st2 {o : Oper} (hg : o.guard = none) (hds : o.dst = some 19) (hop : o.op = .load 59 (.tmp 5)) (gs : Nat) (h8 : a.eval (.tmp 5) = .pointer (some ⟨gs, 0, none⟩)) (sp : Int) (nb tb : ByteArray) (A : Option Addr) (n c : Nat) (hE : EEv = .agg #[.int .i64 sp, .string nb, .string tb, .slice A n c]) (hc : w1.heap[gs]? = some (elB sp nb tb (.slice A n c))) : StepAt Tryz.prog Q a sl (IT w1 B db ov Ms I tk x0 x2 x3 EEv) 2 o := by
  refine ⟨⟨hg, by rw [hds]; decide⟩, ?_⟩
  rintro d u W ⟨g, rv, h⟩ hd hdep K hK
  rw [hds] at hK
  have e2 := eval_old (u := u) (slots := sl) (by decide) h8
  obtain ⟨h5, h7⟩ := h.no5 (.inr (.inl rfl)) hd
  obtain ⟨y0, y1, y2, y3, _⟩ := cellsE (blk_at hc (h.bel h5))
  refine wp_yields (w' := W) hds EEv ?_ (hK _ _ ⟨g, rv, { h with c3 := fun _ => rfl, f2 := fun _ => rfl }⟩)
  rw [hE]
  clear hK hdep h hd
  simp only [execOp, hop, e2]
  go_simp
set_option maxRecDepth 100000 in
theorem st3 {o : Oper} (hg : o.guard = none) (hds : o.dst = some 20) (hop : o.op = .call { callee := .value (.func 63), args := #[.tmp 19], argTypes := #[59] }) (hs : 36 ≤ a.tmps.size) (hB : B ≤ w1.heap.size) (hda : 2 ∈ deps o) (sp : Int) (nb tb : ByteArray) (A : Option Addr) (n c : Nat) (hE : EEv = .agg #[.int .i64 sp, .string nb, .string tb, .slice A n c])
    (cI : ∀ W, Below w1.heap.size w1 W → Calls Tryz.prog 63 #[.agg #[.int .i64 sp, .string nb, .string tb, .slice A n c]] W fun e w' => e = .returned (itV I) ∧ Below W.heap.size W w') : StepAt Tryz.prog Q a sl (IT w1 B db ov Ms I tk x0 x2 x3 EEv) 3 o := by
  refine ⟨⟨hg, by rw [hds]; decide⟩, ?_⟩
  rintro d u W ⟨g, rv, h⟩ hd hdep K hK
  rw [hds] at hK
  have e2 := eval_new (a := a) (u := u) (slots := sl) (t := 19) (by decide) (by decide) (by omega)
  rw [h.f2 (hdep 2 hda), hE] at e2
  obtain ⟨h5, h7⟩ := h.no5 (.inr (.inr (.inl rfl))) hd
  refine wp_callsD hds 63 #[.agg #[.int .i64 sp, .string nb, .string tb, .slice A n c]] ?_ ((cI W (h.bel h5)).mono ?_)
  · clear hK hdep h hd cI
    replace e2 := tmpE e2
    simp only [execOp, hop]
    go_simp
  · rintro e w' ⟨rfl, hb⟩
    exact ⟨_, rfl, hK _ _ ⟨g, rv, { h.kept hB hb with c4 := fun _ => rfl, c5c := fun _ => rfl, c3 := fun _ => hdep 2 hda, f3 := fun _ => rfl }⟩⟩
set_option maxRecDepth 100000 in
theorem st4 {o : Oper} (hg : o.guard = none) (hds : o.dst = some 21) (hop : o.op = .buildSlice 39 1 #[(0, .tmp 20)]) (hs : 36 ≤ a.tmps.size) (hB : B ≤ w1.heap.size) (hda : 3 ∈ deps o) (e0 : sv I.href = .string x0) (e2' : sv I.tag = .string x2) (e3 : sv I.data = .string x3) : StepAt Tryz.prog Q a sl (IT w1 B db ov Ms I tk x0 x2 x3 EEv) 4 o := by
  refine ⟨⟨hg, by rw [hds]; decide⟩, ?_⟩
  rintro d u W ⟨g, rv, h⟩ hd hdep K hK
  rw [hds] at hK
  have e2 := eval_new (a := a) (u := u) (slots := sl) (t := 20) (by decide) (by decide) (by omega)
  rw [h.f3 (hdep 3 hda)] at e2
  unfold itV at e2
  rw [e0, e2', e3] at e2
  obtain ⟨ob, hob⟩ : ∃ ob, (Obj.cells #[.string x0, .bool I.gone, .string x2, .string x3, .bool I.book] 79 (0, 0) : Obj) = ob := ⟨_, rfl⟩
  have hb : Below W.heap.size W (W.alloc ob) := (Below.refl _ _).alloc (Nat.le_refl _) _
  refine wp_yields (w' := W.alloc ob) hds (.slice (some ⟨W.heap.size, 0, none⟩) 1 1) ?_ (hK _ _ ⟨W.heap.size, rv, { h.kept hB hb with c4 := fun _ => hdep 3 hda, c5 := fun _ => rfl, f4 := fun _ _ => ⟨rfl, by rw [heap_alloc_new W ob, hob]⟩ }⟩)
  subst hob
  clear hK hdep h hd
  obtain ⟨b1, hb1⟩ : ∃ b1, I.gone = b1 := ⟨_, rfl⟩
  obtain ⟨b4, hb4⟩ : ∃ b4, I.book = b4 := ⟨_, rfl⟩
  rw [hb1, hb4] at e2 ⊢
  simp only [execOp, hop, List.map_toArray, List.map_cons, List.map_nil, e2]
  go_simp
set_option maxRecDepth 100000 in
theorem st5 {o : Oper} (hg : o.guard = none) (hds : o.dst = some 22) (hop : o.op = .call { callee := .builtin .append, args := #[.tmp 18, .tmp 21], argTypes := #[39, 39] }) (hs : 36 ≤ a.tmps.size) (hB : B ≤ w1.heap.size) (hdbB : db < B) (hda : 1 ∈ deps o) (hdb : 4 ∈ deps o) (e0 : sv I.href = .string x0) (e2' : sv I.tag = .string x2) (e3 : sv I.data = .string x3) (hN : Ms.length ≤ 1099511627776) : StepAt Tryz.prog Q a sl (IT w1 B db ov Ms I tk x0 x2 x3 EEv) 5 o := by
  refine ⟨⟨hg, by rw [hds]; decide⟩, ?_⟩
  rintro d u W ⟨g, rv, h⟩ hd hdep K hK
  rw [hds] at hK
  have er := h.r0 hd
  subst er
  obtain ⟨q1, q2⟩ := h.f4 (hdep 4 hdb) hd
  have e1 := eval_new (a := a) (u := u) (slots := sl) (t := 18) (by decide) (by decide) (by omega)
  have e2 := eval_new (a := a) (u := u) (slots := sl) (t := 21) (by decide) (by decide) (by omega)
  rw [h.f1 (hdep 1 hda)] at e1
  rw [q1] at e2
  have hrow := h.row
  rw [hd] at hrow
  have h7 := (h.no5 (.inr (.inr (.inr (.inr rfl)))) hd).2
  have hbx := h.box
  rw [h7] at hbx
  obtain ⟨i0, hi, hz0, hz1, hz2⟩ := info_parts infoIt
  have hrow0 : W.ownsRow B 79 5 rv Ms.length (icells Ms) := hrow
  obtain ⟨y0, y1, y2, y3, y4⟩ := itm q2
  refine wp_append_lies W _ _ 39 hop B 79 i0 zeroIt 5 64 Tryz.underlying39 hi hz0 hz1 hz2 rfl (by decide) rv Ms.length (icells Ms) e1 hrow0 ⟨g, 0, none⟩ 1 1 [.string x0, .bool I.gone, .string x2, .string x3, .bool I.book] e2 rfl (fun j y hj => ?_) (fun y hy => ?_) (by decide) (by unfold maxLen; omega) (by omega) (Nat.le_trans hB h.oth.size) W.heap.size rfl (fun g' cap w' k1 k2 k3 k4 => ?_)
  · match j, hj with
    | 0, hj => simp at hj; subst hj; simpa [Addr.add] using y0
    | 1, hj => simp at hj; subst hj; simpa [Addr.add] using y1
    | 2, hj => simp at hj; subst hj; simpa [Addr.add] using y2
    | 3, hj => simp at hj; subst hj; simpa [Addr.add] using y3
    | 4, hj => simp at hj; subst hj; simpa [Addr.add] using y4
  · simp at hy
    rcases hy with rfl | rfl | rfl | rfl | rfl <;> rfl
  · rw [hds]
    have hlt := hrow0.lt
    refine hK _ _ ⟨g, .slice (some ⟨g', 0, none⟩) (Ms.length + 1) cap, { h with bel := fun q => Bool.noConfusion (show true = false from q), oth := h.oth.trans ⟨k2.os, k2.tape, k2.output, k2.size, fun k hk _ => k2.block k (by have := h.oth.size; omega) (fun e => by have := (hlt k e.symm).1; omega)⟩, c5 := fun _ => hdep 4 hdb, c5b := fun _ => hdep 1 hda, c5c := fun _ => h.c4 (hdep 4 hdb), c7 := fun _ => rfl, f4 := fun _ q => Bool.noConfusion (show true = false from q), f5 := fun _ => rfl, r0 := fun q => Bool.noConfusion (show true = false from q), row := ?_, box := ?_ }⟩
    · show IsOwn B _ (Ms ++ [I]) w'
      unfold IsOwn
      rw [icells_snoc, List.length_append, e0, e2', e3]
      exact k1
    · show w'.heap[db]? = some (tdB (bif d 7 then _ else _) tk)
      rw [h7, k2.block db (Array.getElem?_eq_some_iff.1 hbx).1 (fun e => by have := (hlt db e.symm).1; omega)]
      exact hbx
set_option maxRecDepth 100000 in
theorem st6 {o : Oper} (hg : o.guard = none) (hds : o.dst = some 23) (hop : o.op = .fieldAddr 41 (.tmp 3) 0) (h5 : a.eval (.tmp 3) = .pointer (some ⟨db, 0, none⟩)) : StepAt Tryz.prog Q a sl (IT w1 B db ov Ms I tk x0 x2 x3 EEv) 6 o := by
  refine ⟨⟨hg, by rw [hds]; decide⟩, ?_⟩
  rintro d u W ⟨g, rv, h⟩ hd hdep K hK
  rw [hds] at hK
  have e2 := eval_old (u := u) (slots := sl) (by decide) h5
  refine wp_yields (w' := W) hds (.pointer (some ⟨db, 0, none⟩)) ?_ (hK _ _ ⟨g, rv, { h with f6 := fun _ => rfl }⟩)
  clear hK hdep h hd
  simp only [execOp, hop, e2]
  go_simp
set_option maxRecDepth 100000 in
theorem st7 {o : Oper} (hg : o.guard = none) (hds : o.dst = none) (hop : o.op = .store 39 (.tmp 23) (.tmp 22)) (hs : 36 ≤ a.tmps.size) (hdbB : db < B) (hda : 5 ∈ deps o) (hdb : 6 ∈ deps o) : StepAt Tryz.prog Q a sl (IT w1 B db ov Ms I tk x0 x2 x3 EEv) 7 o := by
  refine ⟨⟨hg, by rw [hds]; rfl⟩, ?_⟩
  rintro d u W ⟨g, rv, h⟩ hd hdep K hK
  rw [hds] at hK
  have d5 := hdep 5 hda
  have e1 := eval_new (a := a) (u := u) (slots := sl) (t := 23) (by decide) (by decide) (by omega)
  have e2 := eval_new (a := a) (u := u) (slots := sl) (t := 22) (by decide) (by decide) (by omega)
  rw [h.f6 (hdep 6 hdb)] at e1
  rw [h.f5 d5] at e2
  have hbx := h.box
  rw [hd] at hbx
  have hbx : W.heap[db]? = some (tdB ov tk) := hbx
  obtain ⟨ao, cc, hf⟩ := Xm.ownsRow_form h.row
  have hlt := h.row.lt
  refine wp_skips (w' := W.setCell ⟨db, 0, none⟩ rv) hds ?_ (hK undef _ ⟨g, rv, { h with bel := fun q => absurd d5 (by rw [show d 5 = false from q]; decide), oth := h.oth.trans ⟨rfl, rfl, rfl, by simp [World.setCell], fun k _ hk => Below.heap_setCell _ _ _ _ hk⟩, c7 := fun _ => d5, f4 := fun _ q => absurd d5 (by rw [show d 5 = false from q]; decide), row := ?_, box := ?_ }⟩)
  · have f9 : W.frozen? ⟨db, 0, none⟩ = false := Lib.frozen_of_heap hbx 0
    have d9 : W.cell? ⟨db, 0, none⟩ = some ov := (Lib.cell_of_heap hbx 0).trans rfl
    clear hK hdep h hd hbx
    rw [hf] at e2 ⊢
    simp only [execOp, hop, e1, e2]
    go_simp
  · have hr := h.row
    refine ⟨hr.1, ?_⟩
    rcases hr.2 with q | ⟨g', cap, cur, p1, p2, p3, p4⟩
    · exact .inl q
    · exact .inr ⟨g', cap, cur, p1, p2, by rw [Below.heap_setCell _ _ _ _ (by show g' ≠ db; omega)]; exact p3, p4⟩
  · show (W.setCell ⟨db, 0, none⟩ rv).heap[db]? = some (tdB rv tk)
    simp [World.setCell, Array.getElem?_modify, hbx, tdB]
theorem N.start (hb : Below w1.heap.size w1 W) (hB : B ≤ w1.heap.size) (hr : IsOwn B ov Ms W) (hk : W.heap[db]? = some (tdB ov tk)) : IT w1 B db ov Ms I tk x0 x2 x3 EEv (fun _ => false) u W :=
  ⟨0, ov, ⟨fun _ => hb, Oth.of hB hb, nofun, nofun, nofun, nofun, nofun, nofun, nofun, nofun, nofun, nofun, nofun, nofun, nofun, fun _ => rfl, hr, hk⟩⟩
end
end T5
end Go.Proofs.YtmmpojhjpghdlaaGreatDoor.Dv
