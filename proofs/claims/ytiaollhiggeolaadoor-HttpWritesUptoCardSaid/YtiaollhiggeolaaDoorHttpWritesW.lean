/-
  THE WALK OF THE LAW HttpWrites.
-/
import Derived.Test.YtiaollhiggeolaaDoorHttpWritesP
import Derived.Deep.RegionHeld3
set_option linter.unusedVariables false
namespace Go.Proofs.YtiaollhiggeolaaDoor.Ht
open Go.Lib Go.RowKit Go.Shelf

set_option maxHeartbeats 16000000 in
set_option maxRecDepth 100000 in
theorem writes_walk (m t b : ByteArray) (f1 : Value) (F1 : List Fd) (n : Int) (d : ByteArray) (f2 : Value) (F2 : List Fd) (more : ByteArray) (w : World) (h1 : FsAt w f1 F1) (h2 : FsAt w f2 F2)
    (s1 : m.size + t.size + b.size + szF F1 ≤ 1048576) (s2 : d.size + szF F2 ≤ 1048576) (s3 : more.size ≤ 1048576) (hwf : (Lit.int .i64 n).wf = true) (hG : Gw w) :
    Calls Tryd.prog 3 #[.agg #[.string m, .string t, f1, .string b], .agg #[.int .i64 n, f2, .string d], .string more] w fun e w' => e = .returned (.bool true) ∧ Below w.heap.size w w' := by
  obtain ⟨A1, k1, rfl⟩ := h1.form
  obtain ⟨A2, k2, rfl⟩ := h2.form
  obtain ⟨N1, hN1⟩ : ∃ N, F1.length = N := ⟨_, rfl⟩
  obtain ⟨N2, hN2⟩ : ∃ N, F2.length = N := ⟨_, rfl⟩
  rw [hN1] at h1 ⊢
  rw [hN2] at h2 ⊢
  have hT0 : Two w (.cells #[.string m, .string t, .slice A1 N1 k1, .string b] 24 (0, 0)) (.cells #[.int .i64 n, .slice A2 N2 k2, .string d] 26 (0, 0)) ((w.alloc (.cells #[.string m, .string t, .slice A1 N1 k1, .string b] 24)).alloc (.cells #[.int .i64 n, .slice A2 N2 k2, .string d] 26)) := Two.new
  -- what is called
  have cF := Lib.hid (fun (W : World) (hT : Two w (.cells #[.string m, .string t, .slice A1 N1 k1, .string b] 24 (0, 0)) (.cells #[.int .i64 n, .slice A2 N2 k2, .string d] 26 (0, 0)) W) => first_any gw_keeps parseQ_any printA_any W (gw_keeps w W hG hT.bel))
  obtain ⟨⟨PR, PC⟩, e1⟩ : ∃ r, printQ m.data.toList t.data.toList F1 b.data.toList = r := ⟨_, rfl⟩
  obtain ⟨S, vS, dS⟩ := sv_some PR
  have cQ := Lib.hid (fun (W : World) (hT : Two w (.cells #[.string m, .string t, .slice A1 N1 k1, .string b] 24 (0, 0)) (.cells #[.int .i64 n, .slice A2 N2 k2, .string d] 26 (0, 0)) W) => printQ_any (.string m) (.string t) (.slice A1 N1 k1) (.string b) _ _ _ F1 W (sv_data m).symm (sv_data t).symm (sv_data b).symm (h1.kept hT.bel) (by simp only [Lib.size_eq] at s1; unfold mostF; omega) (gw_keeps w W hG hT.bel))
  rw [e1] at cQ
  simp only [vS] at cQ
  have cK := Lib.hid (fun (W : World) => refAsked_any m t W (by unfold mostS; omega) (by unfold mostS; omega))
  obtain ⟨y1, p1⟩ : ∃ y, m ++ (⟨#[32]⟩ : ByteArray) = y := ⟨_, rfl⟩
  obtain ⟨y2, p2⟩ : ∃ y, y1 ++ t = y := ⟨_, rfl⟩
  obtain ⟨y3, p3⟩ : ∃ y, y2 ++ (⟨#[32, 72, 84, 84, 80, 47, 49, 46, 49]⟩ : ByteArray) = y := ⟨_, rfl⟩
  have z1 : y1.size = m.size + 1 := by rw [cat_size p1]; rfl
  have z2 : y2.size = m.size + 1 + t.size := by rw [cat_size p2, z1]
  have z3 : y3.size = m.size + 1 + t.size + 9 := by rw [cat_size p3, z2]; rfl
  have hy3 : y3.data.toList = rowQ m.data.toList t.data.toList := by
    rw [cat_data p3, cat_data p2, cat_data p1]
    unfold rowQ verS
    simp
  have n1 : ¬ 9223372036854775807 < m.size + (⟨#[32]⟩ : ByteArray).size := by rw [show (⟨#[32]⟩ : ByteArray).size = 1 from rfl]; omega
  have n1' : ¬ 9223372036854775807 < m.size + 1 := by omega
  have n2 : ¬ 9223372036854775807 < y1.size + t.size := by omega
  have n3 : ¬ 9223372036854775807 < y2.size + (⟨#[32, 72, 84, 84, 80, 47, 49, 46, 49]⟩ : ByteArray).size := by rw [show (⟨#[32, 72, 84, 84, 80, 47, 49, 46, 49]⟩ : ByteArray).size = 9 from rfl]; omega
  have n3' : ¬ 9223372036854775807 < y2.size + 9 := by omega
  have cW := Lib.hid (fun (W : World) (hT : Two w (.cells #[.string m, .string t, .slice A1 N1 k1, .string b] 24 (0, 0)) (.cells #[.int .i64 n, .slice A2 N2 k2, .string d] 26 (0, 0)) W) => refWrite_any y3 b (.slice A1 N1 k1) F1 W (h1.kept hT.bel) (by omega) (by unfold mostF; omega))
  have hEq : asked m.data.toList t.data.toList = true → write (rowQ m.data.toList t.data.toList) F1 b.data.toList = (PR, PC) := fun h => by
    rw [← e1]; unfold printQ; rw [if_pos h]
  have hNe : asked m.data.toList t.data.toList = false → PR = [] ∧ PC = 80 := fun h => by
    have := e1
    unfold printQ at this
    rw [if_neg (by rw [h]; decide)] at this
    injection this with h1 h2
    exact ⟨h1.symm, h2.symm⟩
  rw [hy3] at cW
  obtain ⟨K, hK⟩ : ∃ K, asked m.data.toList t.data.toList = K := ⟨_, rfl⟩
  rw [hK] at hEq hNe cK
  have hSz : S.size ≤ 73728 ∨ PC ≠ 0 := by
    by_cases h : PC = 0
    · left
      subst h
      have := (write_len (printQ_ok e1).2).1
      rw [Lib.size_eq, dS]; exact this
    · exact .inr h
  have cP := Lib.hid (fun (hC : PC = 0) (W : World) (hT : Two w (.cells #[.string m, .string t, .slice A1 N1 k1, .string b] 24 (0, 0)) (.cells #[.int .i64 n, .slice A2 N2 k2, .string d] 26 (0, 0)) W) => by
    have c := parseQ_any (S ++ more) W (by rw [ByteArray.size_append]; unfold mostS; rcases hSz with h | h; omega; exact absurd hC h) (gw_keeps w W hG hT.bel)
    rw [ByteArray.data_append, Array.toList_append, dS, readQ_pr (by rw [← hC]; exact e1) more.data.toList] at c
    exact c)
  have cE1 : Hid (∀ (v : Value) (W : World), Two w (.cells #[.string m, .string t, .slice A1 N1 k1, .string b] 24 (0, 0)) (.cells #[.int .i64 n, .slice A2 N2 k2, .string d] 26 (0, 0)) W → FsAt W v F1 → Calls Tryd.prog 13 #[v, .slice A1 N1 k1] W fun e w' => e = .returned (.bool true) ∧ Below W.heap.size W w') := Lib.hid (fun v W hT hv => by
    have c := refSame_any v (.slice A1 N1 k1) F1 F1 W hv (h1.kept hT.bel)
    rw [decide_eq_true (rfl : F1 = F1)] at c
    exact c)
  obtain ⟨⟨QR, QC⟩, e2⟩ : ∃ r, printA n F2 d.data.toList = r := ⟨_, rfl⟩
  obtain ⟨R, vR, dR⟩ := sv_some QR
  have cA := Lib.hid (fun (W : World) (hT : Two w (.cells #[.string m, .string t, .slice A1 N1 k1, .string b] 24 (0, 0)) (.cells #[.int .i64 n, .slice A2 N2 k2, .string d] 26 (0, 0)) W) => printA_any n (.slice A2 N2 k2) (.string d) _ F2 W (sv_data d).symm (h2.kept hT.bel) (by simp only [Lib.size_eq] at s2; unfold mostF; omega) (gw_keeps w W hG hT.bel))
  rw [e2] at cA
  simp only [vR] at cA
  have hRz : R.size ≤ 73728 ∨ QC ≠ 0 := by
    by_cases h : QC = 0
    · left
      subst h
      have := (write_len (printA_ok e2).2).1
      rw [Lib.size_eq, dR]; exact this
    · exact .inr h
  have cB := Lib.hid (fun (hC : QC = 0) (W : World) (hT : Two w (.cells #[.string m, .string t, .slice A1 N1 k1, .string b] 24 (0, 0)) (.cells #[.int .i64 n, .slice A2 N2 k2, .string d] 26 (0, 0)) W) => by
    have c := parseA_any (R ++ more) W (by rw [ByteArray.size_append]; unfold mostS; rcases hRz with h | h; omega; exact absurd hC h) (gw_keeps w W hG hT.bel)
    rw [ByteArray.data_append, Array.toList_append, dR, readA_pr (by rw [← hC]; exact e2) more.data.toList] at c
    exact c)
  have cE2 : Hid (∀ (v : Value) (W : World), Two w (.cells #[.string m, .string t, .slice A1 N1 k1, .string b] 24 (0, 0)) (.cells #[.int .i64 n, .slice A2 N2 k2, .string d] 26 (0, 0)) W → FsAt W v F2 → Calls Tryd.prog 13 #[v, .slice A2 N2 k2] W fun e w' => e = .returned (.bool true) ∧ Below W.heap.size W w') := Lib.hid (fun v W hT hv => by
    have c := refSame_any v (.slice A2 N2 k2) F2 F2 W hv (h2.kept hT.bel)
    rw [decide_eq_true (rfl : F2 = F2)] at c
    exact c)
  obtain ⟨q, vq, dq⟩ := sv_some (reason n)
  have cX := Lib.hid (fun (W : World) => reason_any n W hwf)
  have cY : Hid (∀ W : World, Calls Tryd.prog 16 #[.int .i64 n] W fun e w' => e = .returned (sv (reason n)) ∧ Below W.heap.size W w') := Lib.hid (fun W => (refReason_any n W).mono fun e w' h => ⟨h.1, by rw [h.2]; exact Below.refl _ _⟩)
  simp only [vq] at cX cY
  have hT0' := Lib.hid hT0
  have e1' := Lib.hid e1
  have e2' := Lib.hid e2
  have hEq' := Lib.hid hEq
  have hNe' := Lib.hid hNe
  have dS' := Lib.hid dS
  have dR' := Lib.hid dR
  have vS' := Lib.hid vS
  have vR' := Lib.hid vR
  have hSz' := Lib.hid hSz
  have hRz' := Lib.hid hRz
  have hb1 : Hid (N1 ≤ 1048576 ∧ N2 ≤ 1048576) := Lib.hid ⟨by rw [← hN1]; have := szF_ge F1; omega, by rw [← hN2]; have := szF_ge F2; omega⟩
  have h2' := Lib.hid h2
  clear e1 e2 hEq hNe dS dR vS vR hSz hRz hT0 h1 hN1 hN2 hK hG hy3 z1 z2 z3 vq
  go_enter Tryd.func3, Tryd.ntmps3
  go_wp2_with fail
  go_at_call 8
  with_reducible refine (cF.out _ hT0'.out).mono ?_
  rintro e w1 ⟨rfl, hb⟩
  have hT1 := Lib.hid (hT0'.out.next hb)
  clear hb cF hT0'
  obtain ⟨a0, a1, a2, a3, _, _, _, _⟩ := res4 hT1.out.at0
  obtain ⟨x0, x1, x2, _, _, _⟩ := res3 hT1.out.at1
  have hN := hb1.out
  obtain ⟨hNa, hNb⟩ := hN
  by_cases hbig : 200 < N1 + N2
  · have q1 : (200 : Int) < (N1 : Int) + (N2 : Int) := by omega
    have q0 : IntKind.i64.wrap ((N1 : Int) + (N2 : Int)) = (N1 : Int) + (N2 : Int) := IntWalk.i64_in _ (by omega)
    go_wp2
    go_ret
    exact ⟨rfl, hT1.out.bel⟩
  have q1 : ¬ (200 : Int) < (N1 : Int) + (N2 : Int) := by omega
  have q0 : IntKind.i64.wrap ((N1 : Int) + (N2 : Int)) = (N1 : Int) + (N2 : Int) := IntWalk.i64_in _ (by omega)
  by_cases hlong : 20000 < more.size
  · have q2 : (20000 : Int) < (more.size : Int) := by omega
    go_wp2
    go_ret
    exact ⟨rfl, hT1.out.bel⟩
  have q2 : ¬ (20000 : Int) < (more.size : Int) := by omega
  go_wp2_with fail
  go_at_call 9
  with_reducible refine (cQ.out _ hT1.out).mono ?_
  rintro e w2 ⟨rfl, hb⟩
  have hT2 := Lib.hid (hT1.out.next hb)
  clear hb cQ hT1 a0 a1 a2 a3 x0 x1 x2 q0 q1
  obtain ⟨a0, a1, a2, a3, _, _, _, _⟩ := res4 hT2.out.at0
  go_wp2_with fail
  go_at_call 10
  with_reducible refine (cK.out _).mono ?_
  rintro e w3 ⟨rfl, hb⟩
  have hT3 := Lib.hid (hT2.out.next hb)
  clear hb cK hT2 a0 a1 a2 a3
  -- want, why
  have hw : Hid (∀ W, Two w (.cells #[.string m, .string t, .slice A1 N1 k1, .string b] 24 (0, 0)) (.cells #[.int .i64 n, .slice A2 N2 k2, .string d] 26 (0, 0)) W → True) := Lib.hid (fun _ _ => trivial)
  clear hw
  cases K with
  | false =>
    obtain ⟨rfl, rfl⟩ := hNe'.out (by simp)
    obtain rfl : S = ⟨#[]⟩ := data_is (by rw [dS'.out])
    obtain ⟨a0, a1, a2, a3, _, _, _, _⟩ := res4 hT3.out.at0
    obtain ⟨x0, x1, x2, _, _, _⟩ := res3 hT3.out.at1
    clear hNe' hEq' e1' dS' vS' hSz' cW cP cE1 n1 n1' n2 n3 n3'
    go_wp2_with fail
    go_at_call 14
    with_reducible refine (cA.out _ hT3.out).mono ?_
    rintro e u1 ⟨rfl, hb⟩
    have hU1 := Lib.hid (hT3.out.next hb)
    clear hb cA hT3 x0 x1 x2
    by_cases hr : 100 ≤ n ∧ n ≤ 599
    rotate_left
    · have hqn : QR = [] ∧ QC = 80 := by
        have := e2'.out
        unfold printA at this
        rw [if_neg hr] at this
        injection this with h1 h2
        exact ⟨h1.symm, h2.symm⟩
      obtain ⟨rfl, rfl⟩ := hqn
      obtain rfl : R = ⟨#[]⟩ := data_is (by rw [dR'.out])
      have hc : n < 100 ∨ (¬ n < 100 ∧ 599 < n) := by omega
      obtain ⟨x0, x1, x2, _, _, _⟩ := res3 hU1.out.at1
      have hlt := (Array.getElem?_eq_some_iff.1 hU1.out.at1).1
      have hSS := Lib.hid (fun (W : World) (h : Below u1.heap.size u1 W) => (⟨h, (h.cell (p := ⟨w.heap.size + 1, 0, none⟩) hlt).trans x0⟩ : Below u1.heap.size u1 W ∧ W.cell? ⟨w.heap.size + 1, 0, none⟩ = some (.int .i64 n)))
      clear cB cE2 e2' dR' vR' hRz' hr hlt
      rcases hc with hc | ⟨hc, hc2⟩
      all_goals
        go_wp2_with fail
        go_region_held3 (fun W => Below u1.heap.size u1 W ∧ W.cell? ⟨w.heap.size + 1, 0, none⟩ = some (.int .i64 n))
          (refine hSS.out _ ?_ <;> first | exact Below.drew (Below.refl _ _) | exact Below.drew (And.left (by assumption)) | exact below_then (And.left (by assumption)) (by assumption) | exact below_then (Below.drew (Below.refl _ _)) (by assumption) | assumption)
          (first | (go_at_call 17; ((with_reducible refine (cX.out _).mono ?_); rintro e wx ⟨rfl, hbx⟩)) | (go_at_call 16; ((with_reducible refine (cY.out _).mono ?_); rintro e wy ⟨rfl, hby⟩)))
        all_goals
          go_wp2
          go_ret
          exact ⟨rfl, below_then hU1.out.bel (by first | exact And.left (by assumption) | exact below_then (And.left (by assumption)) (by assumption) | assumption)⟩
    obtain ⟨k, hk⟩ : ∃ k : Nat, n = (k : Int) := ⟨n.toNat, by omega⟩
    have hk1 : 100 ≤ k ∧ k ≤ 599 := by omega
    have hcv : IntKind.u64.wrap n = n := by
      rw [hk]
      unfold IntKind.wrap
      simp only [IntKind.bits, IntKind.signed]
      simp
      omega
    obtain ⟨D, hD⟩ : ∃ D : ByteArray, (⟨(decDigits k).toArray⟩ : ByteArray) = D := ⟨_, rfl⟩
    have hDd : D.data.toList = decDigits k := by rw [← hD]
    have hDz : D.size ≤ 20 := by rw [Lib.size_eq, hDd]; exact dec_len k hk1.2
    have hqz : q.size ≤ 20 := by rw [Lib.size_eq, dq]; exact reason_len n
    have cD : Hid (∀ W, Calls Tryd.prog 15 #[.int .u64 n] W fun e w' => e = .returned (.string D) ∧ Below W.heap.size W w') := Lib.hid fun W => by
      have c := Ch.refDecimal_any k (by omega) W
      rw [hD] at c
      rw [hk]; exact c
    obtain ⟨v1, p1⟩ : ∃ y, (⟨#[72, 84, 84, 80, 47, 49, 46, 49, 32]⟩ : ByteArray) ++ D = y := ⟨_, rfl⟩
    obtain ⟨v2, p2⟩ : ∃ y, v1 ++ (⟨#[32]⟩ : ByteArray) = y := ⟨_, rfl⟩
    obtain ⟨v3, p3⟩ : ∃ y, v2 ++ q = y := ⟨_, rfl⟩
    have z1 : v1.size = 9 + D.size := by rw [cat_size p1]; rfl
    have z2 : v2.size = 9 + D.size + 1 := by rw [cat_size p2, z1]; rfl
    have z3 : v3.size = 9 + D.size + 1 + q.size := by rw [cat_size p3, z2]
    have hrow : v3.data.toList = rowA n.toNat := by
      rw [cat_data p3, cat_data p2, cat_data p1, hDd, dq, hk]
      unfold rowA verS
      simp
    have m1 : ¬ 9223372036854775807 < (⟨#[72, 84, 84, 80, 47, 49, 46, 49, 32]⟩ : ByteArray).size + D.size := by rw [show (⟨#[72, 84, 84, 80, 47, 49, 46, 49, 32]⟩ : ByteArray).size = 9 from rfl]; omega
    have m1' : ¬ 9223372036854775807 < 9 + D.size := by omega
    have m2 : ¬ 9223372036854775807 < v1.size + (⟨#[32]⟩ : ByteArray).size := by rw [show (⟨#[32]⟩ : ByteArray).size = 1 from rfl]; omega
    have m2' : ¬ 9223372036854775807 < v1.size + 1 := by omega
    have m3 : ¬ 9223372036854775807 < v2.size + q.size := by omega
    have hPw : write v3.data.toList F2 d.data.toList = (QR, QC) := by rw [← e2'.out]; unfold printA; rw [if_pos hr, hrow]
    have cV : Hid (∀ W, Below u1.heap.size u1 W → Calls Tryd.prog 11 #[.string v3, .slice A2 N2 k2, .string d] W fun e w' => e = .returned (.tuple #[.string R, .int .i64 QC]) ∧ Below W.heap.size W w') := Lib.hid fun W hW => by
      have c := refWrite_any v3 d (.slice A2 N2 k2) F2 W (h2'.out.kept (below_then hU1.out.bel hW)) (by omega) (by unfold mostF; omega)
      rw [hPw] at c
      simp only at c
      rw [vR'.out] at c
      exact c
    obtain ⟨x0, x1, x2, _, _, _⟩ := res3 hU1.out.at1
    have hlt := (Array.getElem?_eq_some_iff.1 hU1.out.at1).1
    have hSS := Lib.hid (fun (W : World) (h : Below u1.heap.size u1 W) => (⟨h, (h.cell (p := ⟨w.heap.size + 1, 0, none⟩) hlt).trans x0, (h.cell (p := ⟨w.heap.size + 1, 1, none⟩) hlt).trans x1, (h.cell (p := ⟨w.heap.size + 1, 2, none⟩) hlt).trans x2⟩ : Below u1.heap.size u1 W ∧ W.cell? ⟨w.heap.size + 1, 0, none⟩ = some (.int .i64 n) ∧ W.cell? ⟨w.heap.size + 1, 1, none⟩ = some (.slice A2 N2 k2) ∧ W.cell? ⟨w.heap.size + 1, 2, none⟩ = some (.string d)))
    have hr1 : ¬ n < 100 := by omega
    have hr2 : ¬ 599 < n := by omega
    have hr3 : 100 ≤ n := hr.1
    have hr4 : n ≤ 599 := hr.2
    have hnk : Hid (((n.toNat : Nat) : Int) = n) := Lib.hid (by omega)
    clear hk hk1 hD hDd hDz hqz z1 z2 z3 hrow hPw hlt hr
    go_wp2_with fail
    go_region_held3 (fun W => Below u1.heap.size u1 W ∧ W.cell? ⟨w.heap.size + 1, 0, none⟩ = some (.int .i64 n) ∧ W.cell? ⟨w.heap.size + 1, 1, none⟩ = some (.slice A2 N2 k2) ∧ W.cell? ⟨w.heap.size + 1, 2, none⟩ = some (.string d))
      (refine hSS.out _ ?_ <;> first | exact Below.drew (Below.refl _ _) | exact below_then (And.left (by assumption)) (by assumption) | exact below_then (Below.drew (Below.refl _ _)) (by assumption) | assumption)
      (first | (go_at_call 15; ((with_reducible refine (cD.out _).mono ?_); rintro e wx ⟨rfl, hbx⟩)) | (go_at_call 16; ((with_reducible refine (cY.out _).mono ?_); rintro e wy ⟨rfl, hby⟩)) | (go_at_call 11; ((with_reducible refine (cV.out _ (And.left (by assumption))).mono ?_); rintro e wz ⟨rfl, hbz⟩)))
    all_goals
      have hz : Below u1.heap.size u1 wz := (by first | exact And.left (by assumption) | exact below_then (And.left (by assumption)) (by assumption))
      have hU2 := Lib.hid (hU1.out.next hz)
      clear hSS hz x0 x1 x2
      obtain ⟨x0, x1, x2, _, _, _⟩ := res3 hU2.out.at1
      have hlt := (Array.getElem?_eq_some_iff.1 hU2.out.at1).1
      have hSS := Lib.hid (fun (W : World) (h : Below wz.heap.size wz W) => (⟨h, (h.cell (p := ⟨w.heap.size + 1, 0, none⟩) hlt).trans x0⟩ : Below wz.heap.size wz W ∧ W.cell? ⟨w.heap.size + 1, 0, none⟩ = some (.int .i64 n)))
      clear hlt
      go_wp2_with fail
      go_region_held3 (fun W => Below wz.heap.size wz W ∧ W.cell? ⟨w.heap.size + 1, 0, none⟩ = some (.int .i64 n))
        (refine hSS.out _ ?_ <;> first | exact Below.drew (Below.refl _ _) | exact below_then (And.left (by assumption)) (by assumption) | exact below_then (Below.drew (Below.refl _ _)) (by assumption) | assumption)
        (first | (go_at_call 17; ((with_reducible refine (cX.out _).mono ?_); rintro e wr ⟨rfl, hbr⟩)) | (go_at_call 16; ((with_reducible refine (cY.out _).mono ?_); rintro e wq ⟨rfl, hbq⟩)))
      all_goals
        have hz2 : Below wz.heap.size wz wq := (by first | exact And.left (by assumption) | exact below_then (And.left (by assumption)) (by assumption))
        have hU3 := Lib.hid (hU2.out.next hz2)
        clear hSS hz2 x0 x1 x2
        by_cases hQC : QC = 0
        rotate_left
        · have j1 : (QC == 0) = false := beq_eq_false_iff_ne.2 hQC
          have j2 : (QC != 0) = true := bne_iff_ne.2 hQC
          go_wp2
          go_ret
          exact ⟨rfl, hU3.out.bel⟩
        · subst hQC
          have mR : ¬ 9223372036854775807 < R.size + more.size := by
            rcases hRz'.out with h | h
            · omega
            · exact absurd rfl h
          obtain ⟨rm, hrm⟩ : ∃ rm, R ++ more = rm := ⟨_, rfl⟩
          have cB7 := cB.out rfl _ hU3.out
          rw [hrm] at cB7
          go_wp2_with fail
          go_at_call 18
          with_reducible refine cB7.mono ?_
          rintro e u7 ⟨⟨g, rfl, hg⟩, hb⟩
          obtain ⟨A7, k7, rfl⟩ := hg.form
          simp only [sv_data]
          rw [hnk.out, show QR.length = R.size by rw [Lib.size_eq, dR'.out]]
          have hO7 : (u7.alloc (.cells #[.int .i64 n, .slice A7 F2.length k7, .string d] 26)).heap[u7.heap.size]? = some (.cells #[.int .i64 n, .slice A7 F2.length k7, .string d] 26 (0, 0)) := heap_alloc_new u7 _
          have hb7 : Below u7.heap.size u7 (u7.alloc (.cells #[.int .i64 n, .slice A7 F2.length k7, .string d] 26)) := (Below.refl _ _).alloc (Nat.le_refl _) _
          have hU7 := Lib.hid ((hU3.out.next hb).next hb7)
          have hg7 := Lib.hid (hg.kept hb7)
          obtain ⟨x0, x1, x2, _, _, _⟩ := res3 hU7.out.at1
          obtain ⟨y0, y1, y2, _, _, _⟩ := res3 hO7
          have cE7 := cE2.out _ _ hU7.out hg7.out
          clear hb hU3 cB7 hb7 hO7 hg
          go_wp2_with fail
          go_at_call 13
          with_reducible refine cE7.mono ?_
          rintro e u8 ⟨rfl, hb⟩
          have hU8 := Lib.hid (hU7.out.next hb)
          clear hb cE7 hU7 hg7 x0 x1 x2 y0 y1 y2
          go_wp2
          go_ret
          exact ⟨rfl, hU8.out.bel⟩
  | true =>
    obtain ⟨a0, a1, a2, a3, _, _, _, _⟩ := res4 hT3.out.at0
    go_wp2_with fail
    go_at_call 11
    have cW3 := cW.out _ hT3.out
    rw [hEq'.out (by simp)] at cW3
    simp only [vS'.out] at cW3
    with_reducible refine cW3.mono ?_
    rintro e w4 ⟨rfl, hb⟩
    have hT4 := Lib.hid (hT3.out.next hb)
    clear hb cW cW3 hT3 a0 a1 a2 a3 n1 n1' n2 n3 n3'
    by_cases hPC : PC = 0
    rotate_left
    · have r1 : (PC == 0) = false := beq_eq_false_iff_ne.2 hPC
      have r2 : (PC != 0) = true := bne_iff_ne.2 hPC
      obtain ⟨x0, x1, x2, _, _, _⟩ := res3 hT4.out.at1
      clear hNe' hEq' e1' dS' vS' hSz' cP cE1
      go_wp2_with fail
      go_at_call 14
      with_reducible refine (cA.out _ hT4.out).mono ?_
      rintro e u1 ⟨rfl, hb⟩
      have hU1 := Lib.hid (hT4.out.next hb)
      clear hb cA hT4 x0 x1 x2
      by_cases hr : 100 ≤ n ∧ n ≤ 599
      rotate_left
      · have hqn : QR = [] ∧ QC = 80 := by
          have := e2'.out
          unfold printA at this
          rw [if_neg hr] at this
          injection this with h1 h2
          exact ⟨h1.symm, h2.symm⟩
        obtain ⟨rfl, rfl⟩ := hqn
        obtain rfl : R = ⟨#[]⟩ := data_is (by rw [dR'.out])
        have hc : n < 100 ∨ (¬ n < 100 ∧ 599 < n) := by omega
        obtain ⟨x0, x1, x2, _, _, _⟩ := res3 hU1.out.at1
        have hlt := (Array.getElem?_eq_some_iff.1 hU1.out.at1).1
        have hSS := Lib.hid (fun (W : World) (h : Below u1.heap.size u1 W) => (⟨h, (h.cell (p := ⟨w.heap.size + 1, 0, none⟩) hlt).trans x0⟩ : Below u1.heap.size u1 W ∧ W.cell? ⟨w.heap.size + 1, 0, none⟩ = some (.int .i64 n)))
        clear cB cE2 e2' dR' vR' hRz' hr hlt
        rcases hc with hc | ⟨hc, hc2⟩
        all_goals
          go_wp2_with fail
          go_region_held3 (fun W => Below u1.heap.size u1 W ∧ W.cell? ⟨w.heap.size + 1, 0, none⟩ = some (.int .i64 n))
            (refine hSS.out _ ?_ <;> first | exact Below.drew (Below.refl _ _) | exact Below.drew (And.left (by assumption)) | exact below_then (And.left (by assumption)) (by assumption) | exact below_then (Below.drew (Below.refl _ _)) (by assumption) | assumption)
            (first | (go_at_call 17; ((with_reducible refine (cX.out _).mono ?_); rintro e wx ⟨rfl, hbx⟩)) | (go_at_call 16; ((with_reducible refine (cY.out _).mono ?_); rintro e wy ⟨rfl, hby⟩)))
          all_goals
            go_wp2
            go_ret
            exact ⟨rfl, below_then hU1.out.bel (by first | exact And.left (by assumption) | exact below_then (And.left (by assumption)) (by assumption) | assumption)⟩
      obtain ⟨k, hk⟩ : ∃ k : Nat, n = (k : Int) := ⟨n.toNat, by omega⟩
      have hk1 : 100 ≤ k ∧ k ≤ 599 := by omega
      have hcv : IntKind.u64.wrap n = n := by
        rw [hk]
        unfold IntKind.wrap
        simp only [IntKind.bits, IntKind.signed]
        simp
        omega
      obtain ⟨D, hD⟩ : ∃ D : ByteArray, (⟨(decDigits k).toArray⟩ : ByteArray) = D := ⟨_, rfl⟩
      have hDd : D.data.toList = decDigits k := by rw [← hD]
      have hDz : D.size ≤ 20 := by rw [Lib.size_eq, hDd]; exact dec_len k hk1.2
      have hqz : q.size ≤ 20 := by rw [Lib.size_eq, dq]; exact reason_len n
      have cD : Hid (∀ W, Calls Tryd.prog 15 #[.int .u64 n] W fun e w' => e = .returned (.string D) ∧ Below W.heap.size W w') := Lib.hid fun W => by
        have c := Ch.refDecimal_any k (by omega) W
        rw [hD] at c
        rw [hk]; exact c
      obtain ⟨v1, p1⟩ : ∃ y, (⟨#[72, 84, 84, 80, 47, 49, 46, 49, 32]⟩ : ByteArray) ++ D = y := ⟨_, rfl⟩
      obtain ⟨v2, p2⟩ : ∃ y, v1 ++ (⟨#[32]⟩ : ByteArray) = y := ⟨_, rfl⟩
      obtain ⟨v3, p3⟩ : ∃ y, v2 ++ q = y := ⟨_, rfl⟩
      have z1 : v1.size = 9 + D.size := by rw [cat_size p1]; rfl
      have z2 : v2.size = 9 + D.size + 1 := by rw [cat_size p2, z1]; rfl
      have z3 : v3.size = 9 + D.size + 1 + q.size := by rw [cat_size p3, z2]
      have hrow : v3.data.toList = rowA n.toNat := by
        rw [cat_data p3, cat_data p2, cat_data p1, hDd, dq, hk]
        unfold rowA verS
        simp
      have m1 : ¬ 9223372036854775807 < (⟨#[72, 84, 84, 80, 47, 49, 46, 49, 32]⟩ : ByteArray).size + D.size := by rw [show (⟨#[72, 84, 84, 80, 47, 49, 46, 49, 32]⟩ : ByteArray).size = 9 from rfl]; omega
      have m1' : ¬ 9223372036854775807 < 9 + D.size := by omega
      have m2 : ¬ 9223372036854775807 < v1.size + (⟨#[32]⟩ : ByteArray).size := by rw [show (⟨#[32]⟩ : ByteArray).size = 1 from rfl]; omega
      have m2' : ¬ 9223372036854775807 < v1.size + 1 := by omega
      have m3 : ¬ 9223372036854775807 < v2.size + q.size := by omega
      have hPw : write v3.data.toList F2 d.data.toList = (QR, QC) := by rw [← e2'.out]; unfold printA; rw [if_pos hr, hrow]
      have cV : Hid (∀ W, Below u1.heap.size u1 W → Calls Tryd.prog 11 #[.string v3, .slice A2 N2 k2, .string d] W fun e w' => e = .returned (.tuple #[.string R, .int .i64 QC]) ∧ Below W.heap.size W w') := Lib.hid fun W hW => by
        have c := refWrite_any v3 d (.slice A2 N2 k2) F2 W (h2'.out.kept (below_then hU1.out.bel hW)) (by omega) (by unfold mostF; omega)
        rw [hPw] at c
        simp only at c
        rw [vR'.out] at c
        exact c
      obtain ⟨x0, x1, x2, _, _, _⟩ := res3 hU1.out.at1
      have hlt := (Array.getElem?_eq_some_iff.1 hU1.out.at1).1
      have hSS := Lib.hid (fun (W : World) (h : Below u1.heap.size u1 W) => (⟨h, (h.cell (p := ⟨w.heap.size + 1, 0, none⟩) hlt).trans x0, (h.cell (p := ⟨w.heap.size + 1, 1, none⟩) hlt).trans x1, (h.cell (p := ⟨w.heap.size + 1, 2, none⟩) hlt).trans x2⟩ : Below u1.heap.size u1 W ∧ W.cell? ⟨w.heap.size + 1, 0, none⟩ = some (.int .i64 n) ∧ W.cell? ⟨w.heap.size + 1, 1, none⟩ = some (.slice A2 N2 k2) ∧ W.cell? ⟨w.heap.size + 1, 2, none⟩ = some (.string d)))
      have hr1 : ¬ n < 100 := by omega
      have hr2 : ¬ 599 < n := by omega
      have hr3 : 100 ≤ n := hr.1
      have hr4 : n ≤ 599 := hr.2
      have hnk : Hid (((n.toNat : Nat) : Int) = n) := Lib.hid (by omega)
      clear hk hk1 hD hDd hDz hqz z1 z2 z3 hrow hPw hlt hr
      go_wp2_with fail
      go_region_held3 (fun W => Below u1.heap.size u1 W ∧ W.cell? ⟨w.heap.size + 1, 0, none⟩ = some (.int .i64 n) ∧ W.cell? ⟨w.heap.size + 1, 1, none⟩ = some (.slice A2 N2 k2) ∧ W.cell? ⟨w.heap.size + 1, 2, none⟩ = some (.string d))
        (refine hSS.out _ ?_ <;> first | exact Below.drew (Below.refl _ _) | exact below_then (And.left (by assumption)) (by assumption) | exact below_then (Below.drew (Below.refl _ _)) (by assumption) | assumption)
        (first | (go_at_call 15; ((with_reducible refine (cD.out _).mono ?_); rintro e wx ⟨rfl, hbx⟩)) | (go_at_call 16; ((with_reducible refine (cY.out _).mono ?_); rintro e wy ⟨rfl, hby⟩)) | (go_at_call 11; ((with_reducible refine (cV.out _ (And.left (by assumption))).mono ?_); rintro e wz ⟨rfl, hbz⟩)))
      all_goals
        have hz : Below u1.heap.size u1 wz := (by first | exact And.left (by assumption) | exact below_then (And.left (by assumption)) (by assumption))
        have hU2 := Lib.hid (hU1.out.next hz)
        clear hSS hz x0 x1 x2
        obtain ⟨x0, x1, x2, _, _, _⟩ := res3 hU2.out.at1
        have hlt := (Array.getElem?_eq_some_iff.1 hU2.out.at1).1
        have hSS := Lib.hid (fun (W : World) (h : Below wz.heap.size wz W) => (⟨h, (h.cell (p := ⟨w.heap.size + 1, 0, none⟩) hlt).trans x0⟩ : Below wz.heap.size wz W ∧ W.cell? ⟨w.heap.size + 1, 0, none⟩ = some (.int .i64 n)))
        clear hlt
        go_wp2_with fail
        go_region_held3 (fun W => Below wz.heap.size wz W ∧ W.cell? ⟨w.heap.size + 1, 0, none⟩ = some (.int .i64 n))
          (refine hSS.out _ ?_ <;> first | exact Below.drew (Below.refl _ _) | exact below_then (And.left (by assumption)) (by assumption) | exact below_then (Below.drew (Below.refl _ _)) (by assumption) | assumption)
          (first | (go_at_call 17; ((with_reducible refine (cX.out _).mono ?_); rintro e wr ⟨rfl, hbr⟩)) | (go_at_call 16; ((with_reducible refine (cY.out _).mono ?_); rintro e wq ⟨rfl, hbq⟩)))
        all_goals
          have hz2 : Below wz.heap.size wz wq := (by first | exact And.left (by assumption) | exact below_then (And.left (by assumption)) (by assumption))
          have hU3 := Lib.hid (hU2.out.next hz2)
          clear hSS hz2 x0 x1 x2
          by_cases hQC : QC = 0
          rotate_left
          · have j1 : (QC == 0) = false := beq_eq_false_iff_ne.2 hQC
            have j2 : (QC != 0) = true := bne_iff_ne.2 hQC
            go_wp2
            go_ret
            exact ⟨rfl, hU3.out.bel⟩
          · subst hQC
            have mR : ¬ 9223372036854775807 < R.size + more.size := by
              rcases hRz'.out with h | h
              · omega
              · exact absurd rfl h
            obtain ⟨rm, hrm⟩ : ∃ rm, R ++ more = rm := ⟨_, rfl⟩
            have cB7 := cB.out rfl _ hU3.out
            rw [hrm] at cB7
            go_wp2_with fail
            go_at_call 18
            with_reducible refine cB7.mono ?_
            rintro e u7 ⟨⟨g, rfl, hg⟩, hb⟩
            obtain ⟨A7, k7, rfl⟩ := hg.form
            simp only [sv_data]
            rw [hnk.out, show QR.length = R.size by rw [Lib.size_eq, dR'.out]]
            have hO7 : (u7.alloc (.cells #[.int .i64 n, .slice A7 F2.length k7, .string d] 26)).heap[u7.heap.size]? = some (.cells #[.int .i64 n, .slice A7 F2.length k7, .string d] 26 (0, 0)) := heap_alloc_new u7 _
            have hb7 : Below u7.heap.size u7 (u7.alloc (.cells #[.int .i64 n, .slice A7 F2.length k7, .string d] 26)) := (Below.refl _ _).alloc (Nat.le_refl _) _
            have hU7 := Lib.hid ((hU3.out.next hb).next hb7)
            have hg7 := Lib.hid (hg.kept hb7)
            obtain ⟨x0, x1, x2, _, _, _⟩ := res3 hU7.out.at1
            obtain ⟨y0, y1, y2, _, _, _⟩ := res3 hO7
            have cE7 := cE2.out _ _ hU7.out hg7.out
            clear hb hU3 cB7 hb7 hO7 hg
            go_wp2_with fail
            go_at_call 13
            with_reducible refine cE7.mono ?_
            rintro e u8 ⟨rfl, hb⟩
            have hU8 := Lib.hid (hU7.out.next hb)
            clear hb cE7 hU7 hg7 x0 x1 x2 y0 y1 y2
            go_wp2
            go_ret
            exact ⟨rfl, hU8.out.bel⟩
    · subst hPC
      have mS : ¬ 9223372036854775807 < S.size + more.size := by
        rcases hSz'.out with h | h
        · omega
        · exact absurd rfl h
      obtain ⟨sm, hsm⟩ : ∃ sm, S ++ more = sm := ⟨_, rfl⟩
      have cP4 := cP.out rfl _ hT4.out
      rw [hsm] at cP4
      go_wp2_with fail
      go_at_call 12
      with_reducible refine cP4.mono ?_
      rintro e w5 ⟨⟨v, rfl, hv⟩, hb⟩
      obtain ⟨A5, k5, rfl⟩ := hv.form
      simp only [sv_data]
      rw [show PR.length = S.size by rw [Lib.size_eq, dS'.out]]
      have hO5 : (w5.alloc (.cells #[.string m, .string t, .slice A5 F1.length k5, .string b] 24)).heap[w5.heap.size]? = some (.cells #[.string m, .string t, .slice A5 F1.length k5, .string b] 24 (0, 0)) := heap_alloc_new w5 _
      have hb5 : Below w5.heap.size w5 (w5.alloc (.cells #[.string m, .string t, .slice A5 F1.length k5, .string b] 24)) := (Below.refl _ _).alloc (Nat.le_refl _) _
      have hT5 := Lib.hid ((hT4.out.next hb).next hb5)
      have hv5 := Lib.hid (hv.kept hb5)
      obtain ⟨a0, a1, a2, a3, _, _, _, _⟩ := res4 hT5.out.at0
      obtain ⟨c0, c1, c2, c3, _, _, _, _⟩ := res4 hO5
      have cE5 := cE1.out _ _ hT5.out hv5.out
      clear hb cP hT4 cP4 hb5 hO5 hv
      go_wp2_with fail
      go_at_call 13
      with_reducible refine cE5.mono ?_
      rintro e w6 ⟨rfl, hb⟩
      have hT6 := Lib.hid (hT5.out.next hb)
      clear hb cE5 hT5 hv5 a0 a1 a2 a3 c0 c1 c2 c3 mS hsm
      obtain ⟨x0, x1, x2, _, _, _⟩ := res3 hT6.out.at1
      clear hNe' hEq' e1' dS' vS' hSz' cE1
      go_wp2_with fail
      go_at_call 14
      with_reducible refine (cA.out _ hT6.out).mono ?_
      rintro e u1 ⟨rfl, hb⟩
      have hU1 := Lib.hid (hT6.out.next hb)
      clear hb cA hT6 x0 x1 x2
      by_cases hr : 100 ≤ n ∧ n ≤ 599
      rotate_left
      · have hqn : QR = [] ∧ QC = 80 := by
          have := e2'.out
          unfold printA at this
          rw [if_neg hr] at this
          injection this with h1 h2
          exact ⟨h1.symm, h2.symm⟩
        obtain ⟨rfl, rfl⟩ := hqn
        obtain rfl : R = ⟨#[]⟩ := data_is (by rw [dR'.out])
        have hc : n < 100 ∨ (¬ n < 100 ∧ 599 < n) := by omega
        obtain ⟨x0, x1, x2, _, _, _⟩ := res3 hU1.out.at1
        have hlt := (Array.getElem?_eq_some_iff.1 hU1.out.at1).1
        have hSS := Lib.hid (fun (W : World) (h : Below u1.heap.size u1 W) => (⟨h, (h.cell (p := ⟨w.heap.size + 1, 0, none⟩) hlt).trans x0⟩ : Below u1.heap.size u1 W ∧ W.cell? ⟨w.heap.size + 1, 0, none⟩ = some (.int .i64 n)))
        clear cB cE2 e2' dR' vR' hRz' hr hlt
        rcases hc with hc | ⟨hc, hc2⟩
        all_goals
          go_wp2_with fail
          go_region_held3 (fun W => Below u1.heap.size u1 W ∧ W.cell? ⟨w.heap.size + 1, 0, none⟩ = some (.int .i64 n))
            (refine hSS.out _ ?_ <;> first | exact Below.drew (Below.refl _ _) | exact Below.drew (And.left (by assumption)) | exact below_then (And.left (by assumption)) (by assumption) | exact below_then (Below.drew (Below.refl _ _)) (by assumption) | assumption)
            (first | (go_at_call 17; ((with_reducible refine (cX.out _).mono ?_); rintro e wx ⟨rfl, hbx⟩)) | (go_at_call 16; ((with_reducible refine (cY.out _).mono ?_); rintro e wy ⟨rfl, hby⟩)))
          all_goals
            go_wp2
            go_ret
            exact ⟨rfl, below_then hU1.out.bel (by first | exact And.left (by assumption) | exact below_then (And.left (by assumption)) (by assumption) | assumption)⟩
      obtain ⟨k, hk⟩ : ∃ k : Nat, n = (k : Int) := ⟨n.toNat, by omega⟩
      have hk1 : 100 ≤ k ∧ k ≤ 599 := by omega
      have hcv : IntKind.u64.wrap n = n := by
        rw [hk]
        unfold IntKind.wrap
        simp only [IntKind.bits, IntKind.signed]
        simp
        omega
      obtain ⟨D, hD⟩ : ∃ D : ByteArray, (⟨(decDigits k).toArray⟩ : ByteArray) = D := ⟨_, rfl⟩
      have hDd : D.data.toList = decDigits k := by rw [← hD]
      have hDz : D.size ≤ 20 := by rw [Lib.size_eq, hDd]; exact dec_len k hk1.2
      have hqz : q.size ≤ 20 := by rw [Lib.size_eq, dq]; exact reason_len n
      have cD : Hid (∀ W, Calls Tryd.prog 15 #[.int .u64 n] W fun e w' => e = .returned (.string D) ∧ Below W.heap.size W w') := Lib.hid fun W => by
        have c := Ch.refDecimal_any k (by omega) W
        rw [hD] at c
        rw [hk]; exact c
      obtain ⟨v1, p1⟩ : ∃ y, (⟨#[72, 84, 84, 80, 47, 49, 46, 49, 32]⟩ : ByteArray) ++ D = y := ⟨_, rfl⟩
      obtain ⟨v2, p2⟩ : ∃ y, v1 ++ (⟨#[32]⟩ : ByteArray) = y := ⟨_, rfl⟩
      obtain ⟨v3, p3⟩ : ∃ y, v2 ++ q = y := ⟨_, rfl⟩
      have z1 : v1.size = 9 + D.size := by rw [cat_size p1]; rfl
      have z2 : v2.size = 9 + D.size + 1 := by rw [cat_size p2, z1]; rfl
      have z3 : v3.size = 9 + D.size + 1 + q.size := by rw [cat_size p3, z2]
      have hrow : v3.data.toList = rowA n.toNat := by
        rw [cat_data p3, cat_data p2, cat_data p1, hDd, dq, hk]
        unfold rowA verS
        simp
      have m1 : ¬ 9223372036854775807 < (⟨#[72, 84, 84, 80, 47, 49, 46, 49, 32]⟩ : ByteArray).size + D.size := by rw [show (⟨#[72, 84, 84, 80, 47, 49, 46, 49, 32]⟩ : ByteArray).size = 9 from rfl]; omega
      have m1' : ¬ 9223372036854775807 < 9 + D.size := by omega
      have m2 : ¬ 9223372036854775807 < v1.size + (⟨#[32]⟩ : ByteArray).size := by rw [show (⟨#[32]⟩ : ByteArray).size = 1 from rfl]; omega
      have m2' : ¬ 9223372036854775807 < v1.size + 1 := by omega
      have m3 : ¬ 9223372036854775807 < v2.size + q.size := by omega
      have hPw : write v3.data.toList F2 d.data.toList = (QR, QC) := by rw [← e2'.out]; unfold printA; rw [if_pos hr, hrow]
      have cV : Hid (∀ W, Below u1.heap.size u1 W → Calls Tryd.prog 11 #[.string v3, .slice A2 N2 k2, .string d] W fun e w' => e = .returned (.tuple #[.string R, .int .i64 QC]) ∧ Below W.heap.size W w') := Lib.hid fun W hW => by
        have c := refWrite_any v3 d (.slice A2 N2 k2) F2 W (h2'.out.kept (below_then hU1.out.bel hW)) (by omega) (by unfold mostF; omega)
        rw [hPw] at c
        simp only at c
        rw [vR'.out] at c
        exact c
      obtain ⟨x0, x1, x2, _, _, _⟩ := res3 hU1.out.at1
      have hlt := (Array.getElem?_eq_some_iff.1 hU1.out.at1).1
      have hSS := Lib.hid (fun (W : World) (h : Below u1.heap.size u1 W) => (⟨h, (h.cell (p := ⟨w.heap.size + 1, 0, none⟩) hlt).trans x0, (h.cell (p := ⟨w.heap.size + 1, 1, none⟩) hlt).trans x1, (h.cell (p := ⟨w.heap.size + 1, 2, none⟩) hlt).trans x2⟩ : Below u1.heap.size u1 W ∧ W.cell? ⟨w.heap.size + 1, 0, none⟩ = some (.int .i64 n) ∧ W.cell? ⟨w.heap.size + 1, 1, none⟩ = some (.slice A2 N2 k2) ∧ W.cell? ⟨w.heap.size + 1, 2, none⟩ = some (.string d)))
      have hr1 : ¬ n < 100 := by omega
      have hr2 : ¬ 599 < n := by omega
      have hr3 : 100 ≤ n := hr.1
      have hr4 : n ≤ 599 := hr.2
      have hnk : Hid (((n.toNat : Nat) : Int) = n) := Lib.hid (by omega)
      clear hk hk1 hD hDd hDz hqz z1 z2 z3 hrow hPw hlt hr
      go_wp2_with fail
      go_region_held3 (fun W => Below u1.heap.size u1 W ∧ W.cell? ⟨w.heap.size + 1, 0, none⟩ = some (.int .i64 n) ∧ W.cell? ⟨w.heap.size + 1, 1, none⟩ = some (.slice A2 N2 k2) ∧ W.cell? ⟨w.heap.size + 1, 2, none⟩ = some (.string d))
        (refine hSS.out _ ?_ <;> first | exact Below.drew (Below.refl _ _) | exact below_then (And.left (by assumption)) (by assumption) | exact below_then (Below.drew (Below.refl _ _)) (by assumption) | assumption)
        (first | (go_at_call 15; ((with_reducible refine (cD.out _).mono ?_); rintro e wx ⟨rfl, hbx⟩)) | (go_at_call 16; ((with_reducible refine (cY.out _).mono ?_); rintro e wy ⟨rfl, hby⟩)) | (go_at_call 11; ((with_reducible refine (cV.out _ (And.left (by assumption))).mono ?_); rintro e wz ⟨rfl, hbz⟩)))
      all_goals
        have hz : Below u1.heap.size u1 wz := (by first | exact And.left (by assumption) | exact below_then (And.left (by assumption)) (by assumption))
        have hU2 := Lib.hid (hU1.out.next hz)
        clear hSS hz x0 x1 x2
        obtain ⟨x0, x1, x2, _, _, _⟩ := res3 hU2.out.at1
        have hlt := (Array.getElem?_eq_some_iff.1 hU2.out.at1).1
        have hSS := Lib.hid (fun (W : World) (h : Below wz.heap.size wz W) => (⟨h, (h.cell (p := ⟨w.heap.size + 1, 0, none⟩) hlt).trans x0⟩ : Below wz.heap.size wz W ∧ W.cell? ⟨w.heap.size + 1, 0, none⟩ = some (.int .i64 n)))
        clear hlt
        go_wp2_with fail
        go_region_held3 (fun W => Below wz.heap.size wz W ∧ W.cell? ⟨w.heap.size + 1, 0, none⟩ = some (.int .i64 n))
          (refine hSS.out _ ?_ <;> first | exact Below.drew (Below.refl _ _) | exact below_then (And.left (by assumption)) (by assumption) | exact below_then (Below.drew (Below.refl _ _)) (by assumption) | assumption)
          (first | (go_at_call 17; ((with_reducible refine (cX.out _).mono ?_); rintro e wr ⟨rfl, hbr⟩)) | (go_at_call 16; ((with_reducible refine (cY.out _).mono ?_); rintro e wq ⟨rfl, hbq⟩)))
        all_goals
          have hz2 : Below wz.heap.size wz wq := (by first | exact And.left (by assumption) | exact below_then (And.left (by assumption)) (by assumption))
          have hU3 := Lib.hid (hU2.out.next hz2)
          clear hSS hz2 x0 x1 x2
          by_cases hQC : QC = 0
          rotate_left
          · have j1 : (QC == 0) = false := beq_eq_false_iff_ne.2 hQC
            have j2 : (QC != 0) = true := bne_iff_ne.2 hQC
            go_wp2
            go_ret
            exact ⟨rfl, hU3.out.bel⟩
          · subst hQC
            have mR : ¬ 9223372036854775807 < R.size + more.size := by
              rcases hRz'.out with h | h
              · omega
              · exact absurd rfl h
            obtain ⟨rm, hrm⟩ : ∃ rm, R ++ more = rm := ⟨_, rfl⟩
            have cB7 := cB.out rfl _ hU3.out
            rw [hrm] at cB7
            go_wp2_with fail
            go_at_call 18
            with_reducible refine cB7.mono ?_
            rintro e u7 ⟨⟨g, rfl, hg⟩, hb⟩
            obtain ⟨A7, k7, rfl⟩ := hg.form
            simp only [sv_data]
            rw [hnk.out, show QR.length = R.size by rw [Lib.size_eq, dR'.out]]
            have hO7 : (u7.alloc (.cells #[.int .i64 n, .slice A7 F2.length k7, .string d] 26)).heap[u7.heap.size]? = some (.cells #[.int .i64 n, .slice A7 F2.length k7, .string d] 26 (0, 0)) := heap_alloc_new u7 _
            have hb7 : Below u7.heap.size u7 (u7.alloc (.cells #[.int .i64 n, .slice A7 F2.length k7, .string d] 26)) := (Below.refl _ _).alloc (Nat.le_refl _) _
            have hU7 := Lib.hid ((hU3.out.next hb).next hb7)
            have hg7 := Lib.hid (hg.kept hb7)
            obtain ⟨x0, x1, x2, _, _, _⟩ := res3 hU7.out.at1
            obtain ⟨y0, y1, y2, _, _, _⟩ := res3 hO7
            have cE7 := cE2.out _ _ hU7.out hg7.out
            clear hb hU3 cB7 hb7 hO7 hg
            go_wp2_with fail
            go_at_call 13
            with_reducible refine cE7.mono ?_
            rintro e u8 ⟨rfl, hb⟩
            have hU8 := Lib.hid (hU7.out.next hb)
            clear hb cE7 hU7 hg7 x0 x1 x2 y0 y1 y2
            go_wp2
            go_ret
            exact ⟨rfl, hU8.out.bel⟩
end Go.Proofs.YtiaollhiggeolaaDoor.Ht
