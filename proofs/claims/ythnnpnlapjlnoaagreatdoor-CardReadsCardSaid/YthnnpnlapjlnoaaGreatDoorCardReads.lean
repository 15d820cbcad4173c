/-
  THE WALK OF THE LAW CardReads.
-/
import Derived.Test.YthnnpnlapjlnoaaGreatDoorCardReadsP
import Derived.Test.YthnnpnlapjlnoaaGreatDoorCardTextC
import Derived.Test.YthnnpnlapjlnoaaGreatDoorCardSame5
import Derived.Test.YthnnpnlapjlnoaaGreatDoorCardRefLines
import Derived.Test.YthnnpnlapjlnoaaGreatDoorMgC
set_option linter.unusedVariables false
namespace Go.Proofs.YthnnpnlapjlnoaaGreatDoor.Ca
open Go.Lib Go.RowKit
open Li (LD PD sv POwn LOwn LineAt PrmsAt chk pr)

set_option maxHeartbeats 4000000 in
set_option maxRecDepth 100000 in
theorem reads_walk (T : ByteArray) (w : World) (hT : Ch.Tabs w) :
    Calls Tryz.prog 3 #[.string T] w fun e w' => e = .returned (.bool true) ∧ Below w.heap.size w w' := by
  obtain ⟨m, Ls, hm⟩ : ∃ m Ls, pcard T.data.toList = (m, Ls) := ⟨_, _, rfl⟩
  have hsum : prsum Ls ≤ 196608 := by have := pcard_pr T.data.toList; rw [hm] at this; exact this
  have cF := first_any w hT
  have cP := fun W (hW : Below w.heap.size w W) => (parse_all T W (Ch.tabs_below hT hW)).mono (fun e w' h => (show (∃ (A : Option Addr) (n c : Nat), e = .returned (.tuple #[.agg #[.slice A n c], .int .i64 (m : Int)]) ∧ LinesAt w' (.slice A n c) Ls) ∧ Below W.heap.size W w' from ⟨(by
    obtain ⟨A, n, c, h1, h2⟩ := h.1
    rw [hm] at h1 h2
    exact ⟨A, n, c, h1, h2⟩), h.2⟩))
  have cR := fun W => (refParseC_any T W).mono (fun e w' h => (show (∃ (A : Option Addr) (n c : Nat), e = .returned (.tuple #[.agg #[.slice A n c], .int .i64 (m : Int)]) ∧ LinesAt w' (.slice A n c) Ls) ∧ Below W.heap.size W w' from ⟨(by
    obtain ⟨A, n, c, h1, h2⟩ := h.1
    rw [hm] at h1 h2
    exact ⟨A, n, c, h1, h2⟩), h.2⟩))
  have hTw := fun W (hW : Below w.heap.size w W) => Ch.tabs_below hT hW
  have cP' := Lib.hid cP
  have cR' := Lib.hid cR
  have hTw' := Lib.hid hTw
  have hm' := Lib.hid hm
  clear cP cR hT hTw hm
  go_enter Tryz.func3, Tryz.ntmps3
  go_wp2_with fail
  go_at_call 9
  with_reducible refine cF.mono ?_
  rintro e w1 ⟨rfl, hB1⟩
  have cP1 := cP'.out w1 hB1
  have hB1' := Lib.hid hB1
  clear cF hB1
  go_wp2_with fail
  go_at_call 10
  with_reducible refine cP1.mono ?_
  rintro e w2 ⟨⟨cA, cn, cc, rfl, hc⟩, hb2⟩
  have hB2 := belowThen hB1'.out hb2
  obtain ⟨w3, hw3⟩ : ∃ w3, w2.alloc (.cells #[.slice cA cn cc] 25) = w3 := ⟨_, rfl⟩
  have hb23 : Below w2.heap.size w2 w3 := by rw [← hw3]; exact (Below.refl _ _).alloc (Nat.le_refl _) _
  have hk3 : w3.heap[w2.heap.size]? = some (.cells #[.slice cA cn cc] 25 (0, 0)) := by rw [← hw3]; exact heap_alloc_new w2 _
  obtain ⟨db, hdb⟩ : ∃ db, w2.heap.size = db := ⟨_, rfl⟩
  rw [hdb] at hk3
  have cR3 := cR'.out w3
  have hc3' := Lib.hid (hc.kept hb23)
  have hB3' := Lib.hid (belowThen hB2 hb23)
  have hk3' := Lib.hid hk3
  clear cP1 hc hb2 hB2 hb23 hk3
  go_wp2_with fail
  go_at_call 11
  with_reducible refine cR3.mono ?_
  rintro e w4 ⟨⟨rA, rn, rc, rfl, hr⟩, hb4⟩
  obtain ⟨w5, hw5⟩ : ∃ w5, w4.alloc (.cells #[.slice rA rn rc] 25) = w5 := ⟨_, rfl⟩
  have hb45 : Below w4.heap.size w4 w5 := by rw [← hw5]; exact (Below.refl _ _).alloc (Nat.le_refl _) _
  have hk5 : w5.heap[w4.heap.size]? = some (.cells #[.slice rA rn rc] 25 (0, 0)) := by rw [← hw5]; exact heap_alloc_new w4 _
  obtain ⟨rb, hrb⟩ : ∃ rb, w4.heap.size = rb := ⟨_, rfl⟩
  rw [hrb] at hk5
  have hb35 := belowThen hb4 hb45
  have hd5 := Li.blk_below hb35 hk3'.out
  have dC5 : w5.cell? ⟨db, 0, none⟩ = some (.slice cA cn cc) := (Lib.cell_of_heap hd5 0).trans rfl
  have dR5 : w5.cell? ⟨rb, 0, none⟩ = some (.slice rA rn rc) := (Lib.cell_of_heap hk5 0).trans rfl
  have hc5 := hc3'.out.kept hb35
  have hr5 := hr.kept hb45
  have cS5 := same5_any _ _ Ls w5 hc5 hr5
  have hB5' := Lib.hid (belowThen hB3'.out hb35)
  have hc5' := Lib.hid hc5
  have hr5' := Lib.hid hr5
  have hd5' := Lib.hid hd5
  have hk5' := Lib.hid hk5
  clear cR3 hr hb4 hb45 hk5 hb35 hd5 hc5 hr5 hk3' hB3' hc3'
  go_wp2_with fail
  go_at_call 12
  with_reducible refine cS5.mono ?_
  rintro e w6 ⟨rfl, hb56⟩
  have hB6 := belowThen hB5'.out hb56
  have hc6 := hc5'.out.kept hb56
  have hr6 := hr5'.out.kept hb56
  have hd6 := Li.blk_below hb56 hd5'.out
  have hk6 := Li.blk_below hb56 hk5'.out
  have hB6' := Lib.hid hB6
  clear cS5 dC5 dR5 hb56 hc5' hr5' hd5' hk5' hB5' hB6
  by_cases hm0 : m = 0
  · subst hm0
    have hck : checkE Ls = 0 := by
      have := pcard_ok (t := T.data.toList) (by rw [hm'.out])
      rw [hm'.out] at this
      exact this
    have hS : prsum Ls ≤ 67108864 := by omega
    have dR6 : w6.cell? ⟨rb, 0, none⟩ = some (.slice rA rn rc) := (Lib.cell_of_heap hk6 0).trans rfl
    have cL6 := (lines_any _ Ls w6 hr6 hS).mono (fun e w' h => (show (∃ (A : Option Addr) (n c : Nat), e = .returned (.tuple #[.slice A n c, .int .i64 0]) ∧ LinesAt w' (.slice A n c) (canC Ls)) ∧ Below w6.heap.size w6 w' from ⟨(by
      rcases h.1 with ⟨h1, _⟩ | ⟨_, u, h2, h3⟩
      · exact absurd hck h1
      · obtain ⟨uA, _, _, uc, hu, _⟩ := id h3
        exact ⟨uA, _, uc, by rw [h2, hu], hu ▸ h3⟩), h.2⟩))
    obtain ⟨tx, htx⟩ : ∃ tx : ByteArray, tx.data.toList = cardT (canC Ls) := ⟨⟨(cardT (canC Ls)).toArray⟩, rfl⟩
    have htl : (cardT (canC Ls)).length = tx.size := by rw [← htx, Array.length_toList]; rfl
    obtain ⟨px, pc, hpx⟩ : ∃ (px : ByteArray) (pc : Nat), (65536 < tx.size → px = ⟨#[]⟩ ∧ pc = 11) ∧ (¬ 65536 < tx.size → px = tx ∧ pc = 0) ∧ (px.data.toList = textP Ls ∧ pc = codeP Ls) := by
      by_cases hl : 65536 < tx.size
      · have hp : codeP Ls = 11 := codeP_long hck (by rw [htl]; exact hl)
        exact ⟨⟨#[]⟩, 11, fun _ => ⟨rfl, rfl⟩, fun h => absurd hl h, by unfold textP; rw [hp]; rfl, hp.symm⟩
      · have hp : codeP Ls = 0 := codeP_ok hck (by rw [htl]; omega)
        exact ⟨tx, 0, fun h => absurd h hl, fun _ => ⟨rfl, rfl⟩, by unfold textP; rw [if_pos hp]; exact htx, hp.symm⟩
    have cPr := fun W (hW : Below w6.heap.size w6 W) => (print_any _ Ls W (hc6.kept hW) hS (hTw'.out W (belowThen hB6'.out hW))).mono (fun e w' h => (show e = .returned (.tuple #[.string px, .int .i64 (pc : Int)]) ∧ Below W.heap.size W w' from ⟨(by
      obtain ⟨⟨x, h1, h2⟩, _⟩ := h
      rw [h2, data_is (h1.trans hpx.2.2.1.symm), hpx.2.2.2]), h.2⟩))
    have cTx := fun (u : Value) W (hu : LinesAt W u (canC Ls)) => (textC_any u Ls W hu hS hck).mono (fun e w' (h : (∃ x : ByteArray, x.data.toList = cardT (canC Ls) ∧ e = .returned (.string x)) ∧ Below W.heap.size W w') => (show e = .returned (.string tx) ∧ Below W.heap.size W w' from ⟨by obtain ⟨⟨x, h1, h2⟩, _⟩ := h; rw [h2, data_is (h1.trans htx.symm)], h.2⟩))
    have hpx1' := Lib.hid hpx.1
    have hpx2' := Lib.hid hpx.2.1
    have hd6' := Lib.hid hd6
    have htx' := Lib.hid htx
    have htl' := Lib.hid htl
    have hck' := Lib.hid hck
    have cPr' := Lib.hid cPr
    have cTx' := Lib.hid cTx
    clear hpx hc6 hr6 hd6 hk6 htx htl hck cPr cTx hS
    go_wp2_with fail
    go_at_call 13
    with_reducible refine cL6.mono ?_
    rintro e w7 ⟨⟨uA, un, uc, rfl, hu⟩, hb67⟩
    have dC7 : w7.cell? ⟨db, 0, none⟩ = some (.slice cA cn cc) := (Lib.cell_of_heap (Li.blk_below hb67 hd6'.out) 0).trans rfl
    have cP7 := cPr'.out w7 hb67
    have hb67' := Lib.hid hb67
    have hu' := Lib.hid hu
    clear cL6 dR6 hb67 hu
    go_wp2_with fail
    go_at_call 14
    with_reducible refine cP7.mono ?_
    rintro e w8 ⟨rfl, hb78⟩
    have hu8 := hu'.out.kept hb78
    have cT8 := cTx'.out _ w8 hu8
    have hb68' := Lib.hid (belowThen hb67'.out hb78)
    have hu8' := Lib.hid hu8
    clear cP7 dC7 hb78 hu8 hu' hb67'
    go_wp2_with fail
    go_at_call 15
    with_reducible refine cT8.mono ?_
    rintro e w9 ⟨rfl, hb89⟩
    have hu9 := hu8'.out.kept hb89
    have hB9 := belowThen hB6'.out (belowThen hb68'.out hb89)
    have hB9' := Lib.hid hB9
    have hu9' := Lib.hid hu9
    clear cT8 hb89 hu9 hu8' hb68' hB9
    by_cases hlong : 65536 < tx.size
    · obtain ⟨rfl, rfl⟩ := hpx1'.out hlong
      have hl1 : (65536 : Int) < (tx.size : Int) := by omega
      go_wp2
      go_ret
      exact ⟨rfl, hB9'.out⟩
    · obtain ⟨rfl, rfl⟩ := hpx2'.out hlong
      have hl1 : ¬ (65536 : Int) < (px.size : Int) := by omega
      have hck := hck'.out
      have hch := canC_check hck
      have hcl : (cardT (canC Ls)).length ≤ 65536 := by rw [htl'.out]; omega
      have hpc : pcard px.data.toList = (0, canC Ls) := by rw [htx'.out]; exact pcard_text hch hcl
      have hca := canC_again hck
      have hcp : codeP (canC Ls) = 0 := codeP_ok hch (by rw [hca]; exact hcl)
      have htp : textP (canC Ls) = px.data.toList := by unfold textP; rw [if_pos hcp, hca, htx'.out]
      have hps : prsum (canC Ls) ≤ 67108864 := by have := prsum_canC hck; omega
      have cQ := (parse_all px w9 (hTw'.out w9 hB9'.out)).mono (fun e w' h => (show (∃ (A : Option Addr) (n c : Nat), e = .returned (.tuple #[.agg #[.slice A n c], .int .i64 0]) ∧ LinesAt w' (.slice A n c) (canC Ls)) ∧ Below w9.heap.size w9 w' from ⟨(by
        obtain ⟨A, n, c, h1, h2⟩ := h.1
        rw [hpc] at h1 h2
        exact ⟨A, n, c, h1, h2⟩), h.2⟩))
      have cPr2 := fun (v : Value) W (hW : Below w.heap.size w W) (hv : LinesAt W v (canC Ls)) => (print_any v (canC Ls) W hv hps (hTw'.out W hW)).mono (fun e w' h => (show e = .returned (.tuple #[.string px, .int .i64 0]) ∧ Below W.heap.size W w' from ⟨(by
        obtain ⟨⟨x, h1, h2⟩, _⟩ := h
        rw [h2, data_is (h1.trans htp), hcp]; rfl), h.2⟩))
      have cPr2' := Lib.hid cPr2
      clear hck hch hcl hpc hca hcp htp hps cPr2
      go_wp2_with fail
      go_at_call 10
      with_reducible refine cQ.mono ?_
      rintro e w10 ⟨⟨dA, dn, dc, rfl, hd⟩, hb90⟩
      obtain ⟨w11, hw11⟩ : ∃ w11, w10.alloc (.cells #[.slice dA dn dc] 25) = w11 := ⟨_, rfl⟩
      have hb01 : Below w10.heap.size w10 w11 := by rw [← hw11]; exact (Below.refl _ _).alloc (Nat.le_refl _) _
      have hk11 : w11.heap[w10.heap.size]? = some (.cells #[.slice dA dn dc] 25 (0, 0)) := by rw [← hw11]; exact heap_alloc_new w10 _
      obtain ⟨eb, heb⟩ : ∃ eb, w10.heap.size = eb := ⟨_, rfl⟩
      rw [heb] at hk11
      have hb91 := belowThen hb90 hb01
      have hB11 := belowThen hB9'.out hb91
      have hd11 := hd.kept hb01
      have hu11 := hu9'.out.kept hb91
      have dD11 : w11.cell? ⟨eb, 0, none⟩ = some (.slice dA dn dc) := (Lib.cell_of_heap hk11 0).trans rfl
      have cP11 := cPr2'.out _ w11 hB11 hd11
      have hB11' := Lib.hid hB11
      have hd11' := Lib.hid hd11
      have hu11' := Lib.hid hu11
      have hk11' := Lib.hid hk11
      clear cQ hd hb90 hb01 hb91 hB11 hd11 hu11 hk11 hu9' hB9' cPr2'
      go_wp2_with fail
      go_at_call 14
      with_reducible refine cP11.mono ?_
      rintro e w12 ⟨rfl, hb12⟩
      have dD12 : w12.cell? ⟨eb, 0, none⟩ = some (.slice dA dn dc) := (Lib.cell_of_heap (Li.blk_below hb12 hk11'.out) 0).trans rfl
      have cE12 := same5_any _ _ (canC Ls) w12 (hd11'.out.kept hb12) (hu11'.out.kept hb12)
      have hB12' := Lib.hid (belowThen hB11'.out hb12)
      clear cP11 dD11 hb12 hd11' hu11' hk11' hB11'
      go_wp2_with fail
      go_at_call 12
      with_reducible refine cE12.mono ?_
      rintro e w13 ⟨rfl, hb13⟩
      have hfin := Lib.hid (belowThen hB12'.out hb13)
      clear cE12 hb13
      go_wp2
      go_ret
      exact ⟨rfl, hfin.out⟩
  · have dn : ((m : Int) == 0) = false := beq_eq_false_iff_ne.2 (by omega)
    have dn2 : ¬ (m : Int) = 0 := by omega
    go_wp2
    go_ret
    exact ⟨rfl, hB6'.out⟩
end Go.Proofs.YthnnpnlapjlnoaaGreatDoor.Ca
