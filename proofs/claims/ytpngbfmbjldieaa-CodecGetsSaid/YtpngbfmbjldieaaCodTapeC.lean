/-
  THE WALKS OF THE DOCUMENT's READER: text, byte.
-/
import Derived.Test.YtpngbfmbjldieaaCodTapeB
set_option linter.unusedVariables false
namespace Go.Proofs.Ytpngbfmbjldieaa.Cd
open Go.Lib Go.RowKit
open Bo (Kp Row ownsRow_heap sv sv_data)
open Ly (BOwn Wr word text flag num word_len num_word num_snoc num_lt)

/-- where a number was read, there were bytes -/
theorem numS_bytes {full : Row} {s : St} {w : World} {M tb : Nat} (h : TpIs w M tb full s) {y : Row × Bool} (hs : (numS s).2 = some y) : 0 < full.length := by
  obtain ⟨A, b, off, c, k, sh, fm, hR, rfl⟩ := h
  cases sh
  · by_cases h8 : (full.drop k).length < 8
    · have e : (numS (stOf full k false fm)).2 = none := by
        show (takeS 8 (some (full.drop k, fm))).2 = none
        rw [takeS_few fm h8]
      rw [e] at hs; cases hs
    · rw [List.length_drop] at h8
      omega
  · cases hs
set_option maxHeartbeats 16000000 in
set_option maxRecDepth 100000 in
theorem tpText_any (w : World) (M tb : Nat) (full : Row) (s : St) (h : TpIs w M tb full s) (hl : full.length ≤ 140737488355328) :
    Calls Try.prog 34 #[tp tb] w fun e w' => e = .returned (sv (txtS s).1) ∧ TpIs w' M tb full (txtS s).2 ∧ Kp [tb] w w' := by
  have cN := tpNumber_any w M tb full s h hl
  have hN := numS_lt s
  have hby := fun y (hs : (numS s).2 = some y) => numS_bytes h hs
  unfold txtS cntS
  obtain ⟨N, hNe⟩ : ∃ N, (numS s).1 = N := ⟨_, rfl⟩
  obtain ⟨s1, hs1⟩ : ∃ s1, (numS s).2 = s1 := ⟨_, rfl⟩
  rw [hNe, hs1] at cN
  rw [hNe] at hN
  rw [hs1] at hby
  rw [hNe, hs1]
  obtain ⟨r1, hr1⟩ : ∃ r1, (takeS (cntB N s1).1 (cntB N s1).2).1 = r1 := ⟨_, rfl⟩
  obtain ⟨r2, hr2⟩ : ∃ r2, (takeS (cntB N s1).1 (cntB N s1).2).2 = r2 := ⟨_, rfl⟩
  rw [hr1, hr2]
  have hans := Lib.hid (And.intro hr1 hr2)
  have hby' := Lib.hid hby
  clear hNe hs1 h hr1 hr2 hby
  go_enter Try.func34, Try.ntmps34
  go_wp2_with fail
  go_at_call 33
  refine cN.mono ?_
  rintro e w1 ⟨rfl, hT, hK⟩
  obtain ⟨A, b, off, c, k, sh, fm, hR, rfl⟩ := hT
  have hsh := Lib.hid (fun W hb => hR.fin_short (W := W) hb)
  have c0 := Lib.cell_of_heap hR.cells 0
  have c1 := Lib.cell_of_heap hR.cells 1
  have c2 := Lib.cell_of_heap hR.cells 2
  have f1 : w1.frozen? ⟨tb, 1, none⟩ = false := Lib.frozen_of_heap hR.cells 1
  have f2 : w1.frozen? ⟨tb, 2, none⟩ = false := Lib.frozen_of_heap hR.cells 2
  have hle := hR.le
  have hR' := Lib.hid hR
  have hK' := Lib.hid hK
  obtain ⟨n, hn⟩ : ∃ n, full.length = n := ⟨_, rfl⟩
  rw [hn] at c0 hl hle
  have hn' := Lib.hid hn
  clear hR hK cN hn
  have hfin : ∀ W, Below w1.heap.size w1 W → TpIs (W.setCell ⟨tb, 2, none⟩ (.bool true)) M tb full none ∧ Kp [tb] w (W.setCell ⟨tb, 2, none⟩ (.bool true)) := fun W hb => ⟨(hsh.out W hb).1, hK'.out.trans (hsh.out W hb).2⟩
  have hfin' := Lib.hid hfin
  clear hfin hsh
  cases sh
  · obtain ⟨D, hD⟩ : ∃ D, n - k = D := ⟨_, rfl⟩
    have hDi : (n : Int) - (k : Int) = (D : Int) := by omega
    have hDw := wrapU_nat (n := D) (by omega)
    have hdl : (full.drop k).length = D := by rw [List.length_drop, hn'.out, hD]
    by_cases hlt : D < N
    · have hc : cntB N (stOf full k false fm) = (0, none) := cntB_no (by rw [hdl]; exact hlt)
      obtain ⟨a1, a2⟩ := hans.out
      rw [hc] at a1 a2
      have a1' : [] = r1 := a1
      have a2' : none = r2 := a2
      have dd : (D : Int) < (N : Int) := by omega
      have aa := Lib.hid (And.intro a1' a2')
      clear hD hdl hc a1 a2 a1' a2' hans hby'
      go_wp2
      go_quiet (fail)
      go_wp2
      go_ret
      rw [← aa.out.1, ← aa.out.2]
      exact ⟨rfl, hfin'.out _ (by first | exact Below.refl _ _ | exact below_drewN _ (Below.refl _ _) | exact Below.drew (Below.refl _ _))⟩
    · have hc : cntB N (stOf full k false fm) = (N, some (full.drop k, fm)) := cntB_yes (by rw [hdl]; exact hlt)
      obtain ⟨a1, a2⟩ := hans.out
      rw [hc] at a1 a2
      obtain ⟨x, hx⟩ : ∃ x, (full.drop k).take N = x := ⟨_, rfl⟩
      have hxl : x.length = N := by rw [← hx, List.length_take, hdl]; omega
      obtain ⟨m, hm⟩ : ∃ m, k + N = m := ⟨_, rfl⟩
      have htk := takeS_all (l := full.drop k) (n := N) fm (by rw [hdl]; omega)
      rw [hx, List.drop_drop, hm] at htk
      rw [htk] at a1 a2
      have a1' : x = r1 := a1
      have a2' : some (full.drop m, fm) = r2 := a2
      have dd : ¬ (D : Int) < (N : Int) := by omega
      have hNw : IntKind.i64.wrap (N : Int) = (N : Int) := by rw [IntKind.wrap_i64]; omega
      have aa := Lib.hid (And.intro a1' a2')
      obtain ⟨rfl, hbl, hbt⟩ := hR'.out.src (hby'.out _ rfl)
      have hkm : (k : Int) + (N : Int) = (m : Int) := by omega
      have hmk : (m : Int) - (N : Int) = (k : Int) := by omega
      have hmn : m ≤ n := by omega
      have hmw : IntKind.i64.wrap (m : Int) = (m : Int) := by rw [IntKind.wrap_i64]; omega
      have hkw : IntKind.i64.wrap (k : Int) = (k : Int) := by rw [IntKind.wrap_i64]; omega
      have hat := Lib.hid (fun W hb => hR'.out.fin_at (W := W) hb (k' := m) (by rw [hn'.out]; exact hmn))
      have hcc := hR'.out.cap
      rw [hn'.out] at hcc
      have hbyt : ∀ W, Below w1.heap.size w1 W → ∀ j y, x[j]? = some y → (W.setCell ⟨tb, 1, none⟩ (.int .i64 (m : Int))).cell? ⟨b, off + k + j, none⟩ = some (.int .u8 ((y : UInt8).toNat : Int)) := fun W hb j y hj => by
        have hp := (hR'.out.kept hb).put 1 (.int .i64 (m : Int)) (k' := m) (sh' := false) (fm' := fm) (by rw [hn'.out]; exact hmn) rfl
        rw [Nat.add_assoc]
        refine hp.byts (k + j) y ?_
        rw [← hx, List.getElem?_take] at hj
        split at hj
        · rw [List.getElem?_drop] at hj; exact hj
        · cases hj
      have hkM : ∀ W, Below w1.heap.size w1 W → Kp [tb] w (W.setCell ⟨tb, 1, none⟩ (.int .i64 (m : Int))) := fun W hb => hK'.out.trans (hat.out W hb).2
      have hkM' := Lib.hid hkM
      have hbyt' := Lib.hid hbyt
      have hxl' := Lib.hid hxl
      clear hD hdl hc a1 a2 a1' a2' hans hby' htk hx hxl hm hbyt hkM
      have hconv : ∀ (o cp : Nat) (W : World), (∀ j y, x[j]? = some y → W.cell? ⟨b, o + j, none⟩ = some (.int .u8 ((y : UInt8).toNat : Int))) → (convert 22 9 (.slice (some ⟨b, o, none⟩) N cp)).run Try.prog W = .ok (.string ⟨x.toArray⟩) W := fun o cp W hW => by
        have hcv := run_convert_bytes_back W 22 9 5 ⟨b, o, none⟩ cp x Try.underlying22 Try.underlying5 Try.underlying9 fun j hj => by
          have hp : (⟨b, o, none⟩ : Addr).add j = ⟨b, o + j, none⟩ := by unfold Addr.add; split <;> simp_all
          rw [hp, hW j _ (List.getElem?_eq_getElem hj)]
        rw [hxl'.out] at hcv
        exact hcv
      have hfin2' := Lib.hid (show ∀ p q, TpIs (((w1.drewN p).setCell ⟨tb, 1, none⟩ (.int .i64 (m : Int))).drewN q) M tb full (some (full.drop m, fm)) ∧ Kp [tb] w (((w1.drewN p).setCell ⟨tb, 1, none⟩ (.int .i64 (m : Int))).drewN q) from fun p q =>
        ⟨(hat.out _ (below_drewN p (Below.refl _ _))).1.kept (below_drewN q (Below.refl _ _)), (hkM'.out _ (below_drewN p (Below.refl _ _))).belowThen (below_drewN q (Below.refl _ _))⟩)
      have i1 : (k : Int) ≤ (m : Int) := by omega
      have i2 : (m : Int) ≤ (c : Int) := by omega
      have i3 : (m : Int) - (k : Int) = (N : Int) := by omega
      have i4 : m - k = N := by omega
      by_cases hck : c = k
      · subst hck
        have hN0 : N = 0 := by omega
        subst hN0
        have hx0 : x = [] := List.eq_nil_of_length_eq_zero hxl'.out
        obtain rfl : m = c := by omega
        have hcv := fun o cp W => hconv o cp W (fun j y hj => by rw [hx0] at hj; simp at hj)
        clear hconv
        go_wp2
        go_quiet (fail)
        go_wp2
        go_quiet (fail)
        go_wp2
        go_ret
        rw [← aa.out.1, ← aa.out.2, hx0]
        exact ⟨rfl, hfin2'.out _ _⟩
      · have hcv := fun q p cp => hconv (off + k) cp (((w1.drewN q).setCell ⟨tb, 1, none⟩ (.int .i64 (m : Int))).drewN p) (hbyt'.out _ (below_drewN q (Below.refl _ _)))
        clear hconv
        go_wp2
        go_quiet (fail)
        go_wp2
        go_quiet (fail)
        go_wp2
        go_ret
        rw [← aa.out.1, ← aa.out.2]
        exact ⟨rfl, hfin2'.out _ _⟩
  · have aa := Lib.hid (show [] = r1 ∧ none = r2 from hans.out)
    clear hans hby'
    go_wp2
    go_quiet (fail)
    go_wp2
    go_ret
    rw [← aa.out.1, ← aa.out.2]
    exact ⟨rfl, hfin'.out _ (by first | exact Below.refl _ _ | exact below_drewN _ (Below.refl _ _) | exact Below.drew (Below.refl _ _))⟩
end Go.Proofs.Ytpngbfmbjldieaa.Cd
