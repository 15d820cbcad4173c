/-
  THE WALK OF THE DOCUMENT's READER: byte.
-/
import Derived.Test.YtpngbfmbjldieaaCodTapeC
set_option linter.unusedVariables false
namespace Go.Proofs.Ytpngbfmbjldieaa.Cd
open Go.Lib Go.RowKit
open Bo (Kp Row ownsRow_heap sv sv_data)
open Ly (BOwn Wr word text flag num word_len num_word num_snoc num_lt)

set_option maxHeartbeats 16000000 in
set_option maxRecDepth 100000 in
theorem tpByte_any (w : World) (M tb : Nat) (full : Row) (s : St) (bd : Nat) (h : TpIs w M tb full s) (hl : full.length ≤ 140737488355328) (hbd : bd ≤ 255) :
    Calls Try.prog 36 #[tp tb, .int .u8 (bd : Int)] w fun e w' => e = .returned (.int .u8 ((bytS s).1 : Int)) ∧ TpIs w' M tb full (wrong (decide (bd ≤ (bytS s).1)) (bytS s).2) ∧ Kp [tb] w w' := by
  obtain ⟨A, b, off, c, k, sh, fm, hR, rfl⟩ := h
  have hsh := Lib.hid (fun W hb => hR.fin_short (W := W) hb)
  have c0 := Lib.cell_of_heap hR.cells 0
  have c1 := Lib.cell_of_heap hR.cells 1
  have c2 := Lib.cell_of_heap hR.cells 2
  have c3 := Lib.cell_of_heap hR.cells 3
  have f1 : w.frozen? ⟨tb, 1, none⟩ = false := Lib.frozen_of_heap hR.cells 1
  have f2 : w.frozen? ⟨tb, 2, none⟩ = false := Lib.frozen_of_heap hR.cells 2
  have f3 : w.frozen? ⟨tb, 3, none⟩ = false := Lib.frozen_of_heap hR.cells 3
  have hle := hR.le
  have hR' := Lib.hid hR
  obtain ⟨n, hn⟩ : ∃ n, full.length = n := ⟨_, rfl⟩
  rw [hn] at c0 hl hle
  have hn' := Lib.hid hn
  clear hR hn
  cases sh
  · by_cases hkn : k = n
    · have he : bytS (stOf full k false fm) = (0, none) := by
        show bytS (some (full.drop k, fm)) = _
        unfold bytS
        rw [takeS_few fm (by rw [List.length_drop, hn'.out]; omega)]
        rfl
      rw [he]
      have e0 : ((k : Int) == (n : Int)) = true := by rw [beq_iff_eq]; omega
      clear he hkn
      go_enter Try.func36, Try.ntmps36
      go_wp2
      go_quiet (fail)
      go_wp2
      go_ret
      exact ⟨rfl, hsh.out _ (by first | exact Below.refl _ _ | exact below_drewN _ (Below.refl _ _) | exact Below.drew (Below.refl _ _))⟩
    · obtain ⟨m, hm⟩ : ∃ m, k + 1 = m := ⟨_, rfl⟩
      obtain ⟨u, hu⟩ : ∃ u, full[k]? = some u := ⟨_, List.getElem?_eq_getElem (by rw [hn'.out]; omega)⟩
      have hdr : full.drop k = u :: full.drop m := by
        have e := List.getElem?_eq_some_iff.1 hu
        rw [List.drop_eq_getElem_cons e.1, e.2, hm]
      have he : bytS (stOf full k false fm) = (u.toNat, some (full.drop m, fm)) := by
        show bytS (some (full.drop k, fm)) = _
        rw [hdr, byt_one]
      rw [he]
      have e0 : ((k : Int) == (n : Int)) = false := by rw [beq_eq_false_iff_ne]; omega
      have hkm : (k : Int) + 1 = (m : Int) := by omega
      have hmk : (m : Int) - 1 = (k : Int) := by omega
      have hkw : IntKind.i64.wrap (k : Int) = (k : Int) := by rw [IntKind.wrap_i64]; omega
      have hk0 : (0 : Int) ≤ (k : Int) := by omega
      have hkn2 : (k : Int) < (n : Int) := by omega
      have hub := u.toNat_lt
      obtain ⟨rfl, hbl, hbt⟩ := hR'.out.src (by rw [hn'.out]; omega)
      have hp1 : ∀ p q, TpR (((w.drewN p).setCell ⟨tb, 1, none⟩ (.int .i64 (m : Int))).drewN q) M tb full (some ⟨b, off, none⟩) b off c m false fm := fun p q =>
        ((hR'.out.kept (below_drewN p (Below.refl _ _))).put 1 (.int .i64 (m : Int)) (k' := m) (sh' := false) (fm' := fm) (by rw [hn'.out]; omega) rfl).kept (below_drewN q (Below.refl _ _))
      have hcb : ∀ p q, (((w.drewN p).setCell ⟨tb, 1, none⟩ (.int .i64 (m : Int))).drewN q).cell? ⟨b, off + k, none⟩ = some (.int .u8 (u.toNat : Int)) := fun p q => (hp1 p q).byts k u hu
      have hcb0 := hR'.out.byts k u hu
      obtain ⟨g, hg⟩ : ∃ g, (fm || decide (bd ≤ u.toNat)) = g := ⟨_, rfl⟩
      have hfin := Lib.hid (show ∀ p q, TpIs ((((w.drewN p).setCell ⟨tb, 1, none⟩ (.int .i64 (m : Int))).drewN q).setCell ⟨tb, 3, none⟩ (.bool g)) M tb full (some (full.drop m, g)) ∧ Kp [tb] w ((((w.drewN p).setCell ⟨tb, 1, none⟩ (.int .i64 (m : Int))).drewN q).setCell ⟨tb, 3, none⟩ (.bool g)) from fun p q =>
        ⟨⟨_, _, _, _, m, false, g, (hp1 p q).put 3 (.bool g) (hp1 p q).le rfl, rfl⟩, ((((Kp.of_below (below_drewN p (Below.refl _ _))).setCell (ad := ⟨tb, 1, none⟩) (.inl (List.mem_singleton.2 rfl)) (.int .i64 (m : Int))).belowThen (below_drewN q (Below.refl _ _))).setCell (ad := ⟨tb, 3, none⟩) (.inl (List.mem_singleton.2 rfl)) (.bool g))⟩)
      have hwr : wrong (decide (bd ≤ u.toNat)) (some (full.drop m, fm)) = some (full.drop m, g) := by rw [← hg]; rfl
      rw [hwr]
      have d1 : decide ((bd : Int) ≤ (u.toNat : Int)) = decide (bd ≤ u.toNat) := decide_eq_decide.2 (by omega)
      clear he hdr hu hwr hp1
      cases fm
      · obtain rfl : decide (bd ≤ u.toNat) = g := by simpa using hg
        clear hm hg
        go_enter Try.func36, Try.ntmps36
        go_wp2
        go_quiet (fail)
        go_wp2
        go_quiet (fail)
        go_wp2
        go_ret
        exact ⟨rfl, hfin.out _ _⟩
      · obtain rfl : true = g := by simpa using hg
        clear hm hg
        go_enter Try.func36, Try.ntmps36
        go_wp2
        go_quiet (fail)
        go_wp2
        go_quiet (fail)
        go_wp2
        go_ret
        exact ⟨rfl, hfin.out _ _⟩
  · go_enter Try.func36, Try.ntmps36
    go_wp2
    go_quiet (fail)
    go_wp2
    go_ret
    exact ⟨rfl, hsh.out _ (by first | exact Below.refl _ _ | exact below_drewN _ (Below.refl _ _) | exact Below.drew (Below.refl _ _))⟩
end Go.Proofs.Ytpngbfmbjldieaa.Cd
