/-
  THE WALKS OF THE PROGRAM's LAYER http: PrintRequest, PrintResponse.
-/
import Derived.Test.YtiaollhiggeolaaDoorHttpCodeL
import Derived.Test.YtiaollhiggeolaaDoorHttpCodeK
set_option linter.unusedVariables false
namespace Go.Proofs.YtiaollhiggeolaaDoor.Ht
open Go.Lib Go.RowKit Go.Shelf

theorem mB_len {m : Row} (h : mB m = true) : m.length < 17 := by
  unfold mB at h
  rw [Bool.and_eq_true] at h
  exact (of_decide_eq_true h.1).2
theorem tB_len {m : Row} (h : tB m = true) : m.length < 257 := by
  unfold tB at h
  rw [Bool.and_eq_true] at h
  exact (of_decide_eq_true h.1).2
set_option maxHeartbeats 8000000 in
set_option maxRecDepth 100000 in
theorem printQ_any : PrintQC Gw := by
  rintro m0 t0 fv b0 M T B fs w rfl rfl rfl hfs hsz hG
  obtain ⟨m, hm, hmd⟩ := sv_some M
  obtain ⟨t, ht, htd⟩ := sv_some T
  obtain ⟨b, hb, hbd⟩ := sv_some B
  rw [hm, ht, hb]
  obtain ⟨A, cap, rfl⟩ := hfs.form
  obtain ⟨N, hN⟩ : ∃ N, fs.length = N := ⟨_, rfl⟩
  rw [hN] at hfs ⊢
  unfold mostF at hsz
  have hmz : m.size = M.length := by rw [Lib.size_eq, hmd]
  have htz : t.size = T.length := by rw [Lib.size_eq, htd]
  have hbz : b.size = B.length := by rw [Lib.size_eq, hbd]
  have hX : (w.alloc (.cells #[.string m, .string t, .slice A N cap, .string b] 24)).heap[w.heap.size]? = some (.cells #[.string m, .string t, .slice A N cap, .string b] 24 (0, 0)) := heap_alloc_new w _
  have hB : Below w.heap.size w (w.alloc (.cells #[.string m, .string t, .slice A N cap, .string b] 24)) := (Below.refl _ _).alloc (Nat.le_refl _) _
  obtain ⟨x0, x1, x2, x3, _, _, _, _⟩ := res4 hX
  have hB' := Lib.hid hB
  have cM := isMethod_any m (w.alloc (.cells #[.string m, .string t, .slice A N cap, .string b] 24)) (by omega)
  have cT := isTarget_any t (w.alloc (.cells #[.string m, .string t, .slice A N cap, .string b] 24)) (by omega)
  obtain ⟨RM, hRM⟩ : ∃ R, mB m.data.toList = R := ⟨_, rfl⟩
  obtain ⟨RT, hRT⟩ : ∃ R, tB t.data.toList = R := ⟨_, rfl⟩
  rw [hRM] at cM
  rw [hRT] at cT
  have hask : asked M T = (RM && RT) := by rw [asked_is, ← hmd, ← htd, hRM, hRT]
  cases RM with
  | false =>
    have hfin := Lib.hid (show Ending.returned (.tuple #[.string ⟨#[]⟩, .int .i64 80]) = .returned (.tuple #[sv (printQ M T fs B).1, .int .i64 (printQ M T fs B).2]) by unfold printQ; rw [hask, Bool.false_and, if_neg (by decide)]; rfl)
    clear hm ht hb hmd htd hbd hN hfs hRM hRT hask hX hB hmz htz hbz
    go_enter Tryd.func9, Tryd.ntmps9
    go_wp2_with fail
    go_at_call 21
    with_reducible refine cM.mono ?_
    rintro e w1 ⟨rfl, rfl⟩
    go_wp2
    go_ret2
    exact ⟨hfin.out, hB'.out⟩
  | true =>
  cases RT with
  | false =>
    have hfin := Lib.hid (show Ending.returned (.tuple #[.string ⟨#[]⟩, .int .i64 80]) = .returned (.tuple #[sv (printQ M T fs B).1, .int .i64 (printQ M T fs B).2]) by unfold printQ; rw [hask, if_neg (by decide)]; rfl)
    clear hm ht hb hmd htd hbd hN hfs hRM hRT hask hX hB hmz htz hbz
    go_enter Tryd.func9, Tryd.ntmps9
    go_wp2_with fail
    go_at_call 21
    with_reducible refine cM.mono ?_
    rintro e w1 ⟨rfl, rfl⟩
    go_wp2_with fail
    go_at_call 22
    with_reducible refine cT.mono ?_
    rintro e w1 ⟨rfl, rfl⟩
    go_wp2
    go_ret2
    exact ⟨hfin.out, hB'.out⟩
  | true =>
  have hl1 := mB_len hRM
  have hl2 := tB_len hRT
  rw [← Lib.size_eq] at hl1 hl2
  obtain ⟨y1, h1⟩ : ∃ y, m ++ (⟨#[32]⟩ : ByteArray) = y := ⟨_, rfl⟩
  obtain ⟨y2, h2⟩ : ∃ y, y1 ++ t = y := ⟨_, rfl⟩
  obtain ⟨y3, h3⟩ : ∃ y, y2 ++ (⟨#[32]⟩ : ByteArray) = y := ⟨_, rfl⟩
  obtain ⟨y4, h4⟩ : ∃ y, y3 ++ (⟨#[72, 84, 84, 80, 47, 49, 46, 49]⟩ : ByteArray) = y := ⟨_, rfl⟩
  have s1 : y1.size = m.size + 1 := by rw [cat_size h1]; rfl
  have s2 : y2.size = m.size + 1 + t.size := by rw [cat_size h2, s1]
  have s3 : y3.size = m.size + 1 + t.size + 1 := by rw [cat_size h3, s2]; rfl
  have s4 : y4.size = m.size + 1 + t.size + 1 + 8 := by rw [cat_size h4, s3]; rfl
  have hrow : y4.data.toList = rowQ M T := by
    rw [cat_data h4, cat_data h3, cat_data h2, cat_data h1, hmd, htd]
    unfold rowQ verS
    simp
  have m1 : ¬ 9223372036854775807 < m.size + (⟨#[32]⟩ : ByteArray).size := by rw [show (⟨#[32]⟩ : ByteArray).size = 1 from rfl]; omega
  have m1' : ¬ 9223372036854775807 < m.size + 1 := by omega
  have m2 : ¬ 9223372036854775807 < y1.size + t.size := by omega
  have m3 : ¬ 9223372036854775807 < y2.size + (⟨#[32]⟩ : ByteArray).size := by rw [show (⟨#[32]⟩ : ByteArray).size = 1 from rfl]; omega
  have m3' : ¬ 9223372036854775807 < y2.size + 1 := by omega
  have m4 : ¬ 9223372036854775807 < y3.size + (⟨#[72, 84, 84, 80, 47, 49, 46, 49]⟩ : ByteArray).size := by rw [show (⟨#[72, 84, 84, 80, 47, 49, 46, 49]⟩ : ByteArray).size = 8 from rfl]; omega
  have m4' : ¬ 9223372036854775807 < y3.size + 8 := by omega
  have cW := write_walk y4 b (.slice A N cap) fs _ (hfs.kept hB) (by omega) (by unfold mostF; omega) (gw_keeps w _ hG hB)
  have hfin := Lib.hid (show write y4.data.toList fs b.data.toList = printQ M T fs B by unfold printQ; rw [hask, if_pos (by rfl), hrow, hbd])
  rw [hfin.out] at cW
  clear hm ht hb hmd htd hbd hN hfs hRM hRT hask hX hB hmz htz hbz s1 s2 s3 s4 hrow hl1 hl2
  go_enter Tryd.func9, Tryd.ntmps9
  go_wp2_with fail
  go_at_call 21
  with_reducible refine cM.mono ?_
  rintro e w1 ⟨rfl, rfl⟩
  go_wp2_with fail
  go_at_call 22
  with_reducible refine cT.mono ?_
  rintro e w1 ⟨rfl, rfl⟩
  go_wp2_with fail
  go_at_call 23
  with_reducible refine cW.mono ?_
  rintro e w2 ⟨rfl, hb2⟩
  go_wp2
  go_ret2
  exact ⟨rfl, below_then hB'.out hb2⟩
theorem dec_len (n : Nat) (h : n ≤ 599) : (decDigits n).length ≤ 20 := by
  rw [decDigits_length]
  rcases Nat.eq_zero_or_pos n with h0 | h0
  · rw [nDigits_small (by omega)]; omega
  · have := Lib.numDigits_eq n h0 (by omega); split at this <;> omega
theorem reason_len (n : Int) : (reason n).length ≤ 20 := by
  unfold reason
  by_cases h200 : n = 200
  · rw [if_pos h200]; decide
  rw [if_neg h200]
  by_cases h201 : n = 201
  · rw [if_pos h201]; decide
  rw [if_neg h201]
  by_cases h204 : n = 204
  · rw [if_pos h204]; decide
  rw [if_neg h204]
  by_cases h207 : n = 207
  · rw [if_pos h207]; decide
  rw [if_neg h207]
  by_cases h400 : n = 400
  · rw [if_pos h400]; decide
  rw [if_neg h400]
  by_cases h403 : n = 403
  · rw [if_pos h403]; decide
  rw [if_neg h403]
  by_cases h404 : n = 404
  · rw [if_pos h404]; decide
  rw [if_neg h404]
  by_cases h405 : n = 405
  · rw [if_pos h405]; decide
  rw [if_neg h405]
  by_cases h409 : n = 409
  · rw [if_pos h409]; decide
  rw [if_neg h409]
  by_cases h412 : n = 412
  · rw [if_pos h412]; decide
  rw [if_neg h412]
  by_cases h413 : n = 413
  · rw [if_pos h413]; decide
  rw [if_neg h413]
  by_cases h421 : n = 421
  · rw [if_pos h421]; decide
  rw [if_neg h421]
  by_cases h503 : n = 503
  · rw [if_pos h503]; decide
  rw [if_neg h503]
  by_cases h507 : n = 507
  · rw [if_pos h507]; decide
  rw [if_neg h507]
  decide
set_option maxHeartbeats 8000000 in
set_option maxRecDepth 100000 in
theorem printA_any : PrintAC Gw := by
  rintro n fv b0 B fs w rfl hfs hsz hG
  obtain ⟨b, hb, hbd⟩ := sv_some B
  rw [hb]
  obtain ⟨A, cap, rfl⟩ := hfs.form
  obtain ⟨N, hN⟩ : ∃ N, fs.length = N := ⟨_, rfl⟩
  rw [hN] at hfs ⊢
  unfold mostF at hsz
  have hbz : b.size = B.length := by rw [Lib.size_eq, hbd]
  have hX : (w.alloc (.cells #[.int .i64 n, .slice A N cap, .string b] 26)).heap[w.heap.size]? = some (.cells #[.int .i64 n, .slice A N cap, .string b] 26 (0, 0)) := heap_alloc_new w _
  have hB : Below w.heap.size w (w.alloc (.cells #[.int .i64 n, .slice A N cap, .string b] 26)) := (Below.refl _ _).alloc (Nat.le_refl _) _
  obtain ⟨x0, x1, x2, _, _, _⟩ := res3 hX
  have hB' := Lib.hid hB
  by_cases hr : 100 ≤ n ∧ n ≤ 599
  rotate_left
  · have hfin := Lib.hid (show Ending.returned (.tuple #[.string ⟨#[]⟩, .int .i64 80]) = .returned (.tuple #[sv (printA n fs B).1, .int .i64 (printA n fs B).2]) by unfold printA; rw [if_neg hr]; rfl)
    have hc : n < 100 ∨ (¬ n < 100 ∧ 599 < n) := by omega
    clear hb hbd hN hfs hX hB hbz hr
    rcases hc with hc | ⟨hc, hc2⟩
    · go_enter Tryd.func14, Tryd.ntmps14
      go_wp2
      go_ret2
      exact ⟨hfin.out, hB'.out⟩
    · go_enter Tryd.func14, Tryd.ntmps14
      go_wp2
      go_ret2
      exact ⟨hfin.out, hB'.out⟩
  obtain ⟨k, hk⟩ : ∃ k : Nat, n = (k : Int) := ⟨n.toNat, by omega⟩
  have hk1 : 100 ≤ k ∧ k ≤ 599 := by omega
  obtain ⟨D, hD⟩ : ∃ D : ByteArray, D.data.toList = decDigits k := ⟨⟨(decDigits k).toArray⟩, rfl⟩
  obtain ⟨q, hq, hqd⟩ := sv_some (reason n)
  have hDz : D.size ≤ 20 := by rw [Lib.size_eq, hD]; exact dec_len k hk1.2
  have hqz : q.size ≤ 20 := by rw [Lib.size_eq, hqd]; exact reason_len n
  obtain ⟨y1, h1⟩ : ∃ y, (⟨#[72, 84, 84, 80, 47, 49, 46, 49, 32]⟩ : ByteArray) ++ D = y := ⟨_, rfl⟩
  obtain ⟨y2, h2⟩ : ∃ y, y1 ++ (⟨#[32]⟩ : ByteArray) = y := ⟨_, rfl⟩
  obtain ⟨y3, h3⟩ : ∃ y, y2 ++ q = y := ⟨_, rfl⟩
  have s1 : y1.size = 9 + D.size := by rw [cat_size h1]; rfl
  have s2 : y2.size = 9 + D.size + 1 := by rw [cat_size h2, s1]; rfl
  have s3 : y3.size = 9 + D.size + 1 + q.size := by rw [cat_size h3, s2]
  have hrow : y3.data.toList = rowA n.toNat := by
    rw [cat_data h3, cat_data h2, cat_data h1, hD, hqd, hk]
    unfold rowA verS
    simp
  have m1 : ¬ 9223372036854775807 < (⟨#[72, 84, 84, 80, 47, 49, 46, 49, 32]⟩ : ByteArray).size + D.size := by rw [show (⟨#[72, 84, 84, 80, 47, 49, 46, 49, 32]⟩ : ByteArray).size = 9 from rfl]; omega
  have m1' : ¬ 9223372036854775807 < 9 + D.size := by omega
  have m2 : ¬ 9223372036854775807 < y1.size + (⟨#[32]⟩ : ByteArray).size := by rw [show (⟨#[32]⟩ : ByteArray).size = 1 from rfl]; omega
  have m2' : ¬ 9223372036854775807 < y1.size + 1 := by omega
  have m3 : ¬ 9223372036854775807 < y2.size + q.size := by omega
  have hwf : (Lit.int .i64 n).wf = true := WalkArith.wf_i64 (by omega)
  obtain ⟨wb, hwb⟩ : ∃ wb, w.alloc (.cells #[.int .i64 n, .slice A N cap, .string b] 26) = wb := ⟨_, rfl⟩
  rw [hwb] at hX hB x0 x1 x2 hB'
  have hlt : w.heap.size < wb.heap.size := (Array.getElem?_eq_some_iff.1 hX).1
  have cD : Hid (∀ W, Below wb.heap.size wb W → Calls Tryd.prog 30 #[.int .i64 n] W fun e w' => e = .returned (.string D) ∧ Below W.heap.size W w') := Lib.hid fun W hW => by
    rw [hk]
    refine (decimal_any k W (by omega) (gw_keeps w W hG (below_then hB hW))).mono ?_
    rintro e w' ⟨⟨x, rfl, hx⟩, hb⟩
    exact ⟨by rw [data_is (hx.trans hD.symm)], hb⟩
  have cR : Hid (∀ W, Calls Tryd.prog 17 #[.int .i64 n] W fun e w' => e = .returned (.string q) ∧ Below W.heap.size W w') := Lib.hid fun W => by
    have := reason_any n W hwf
    rw [hq] at this
    exact this
  obtain ⟨⟨PR, PC⟩, hPr⟩ : ∃ r, printA n fs B = r := ⟨_, rfl⟩
  have hPw : write y3.data.toList fs b.data.toList = (PR, PC) := by rw [← hPr]; unfold printA; rw [if_pos hr, hrow, hbd]
  obtain ⟨S, hS, _⟩ := sv_some PR
  have cW : Hid (∀ W, Below wb.heap.size wb W → Calls Tryd.prog 23 #[.string y3, .slice A N cap, .string b] W fun e w' => e = .returned (.tuple #[.string S, .int .i64 PC]) ∧ Below W.heap.size W w') := Lib.hid fun W hW => by
    have c := write_walk y3 b (.slice A N cap) fs W (hfs.kept (below_then hB hW)) (by omega) (by unfold mostF; omega) (gw_keeps w W hG (below_then hB hW))
    rw [hPw] at c
    simp only at c
    rw [hS] at c
    exact c
  have hSS := Lib.hid (fun (W : World) (h : Below wb.heap.size wb W) => (⟨h, (h.cell (p := ⟨w.heap.size, 0, none⟩) hlt).trans x0, (h.cell (p := ⟨w.heap.size, 1, none⟩) hlt).trans x1, (h.cell (p := ⟨w.heap.size, 2, none⟩) hlt).trans x2⟩ : Below wb.heap.size wb W ∧ W.cell? ⟨w.heap.size, 0, none⟩ = some (.int .i64 n) ∧ W.cell? ⟨w.heap.size, 1, none⟩ = some (.slice A N cap) ∧ W.cell? ⟨w.heap.size, 2, none⟩ = some (.string b)))
  have hfin := Lib.hid (show Ending.returned (.tuple #[.string S, .int .i64 PC]) = .returned (.tuple #[sv (printA n fs B).1, .int .i64 (printA n fs B).2]) by rw [hPr]; simp only; rw [hS])
  have hn1 : ¬ n < 100 := by omega
  have hn2 : ¬ 599 < n := by omega
  clear hb hbd hN hfs hX hB hbz hr hk hk1 hD hq hqd hDz hqz s1 s2 s3 hrow hwf hPr hPw hS hG hlt
  go_enter Tryd.func14, Tryd.ntmps14
  go_wp2_with fail
  go_region_held3 (fun W => Below wb.heap.size wb W ∧ W.cell? ⟨w.heap.size, 0, none⟩ = some (.int .i64 n) ∧ W.cell? ⟨w.heap.size, 1, none⟩ = some (.slice A N cap) ∧ W.cell? ⟨w.heap.size, 2, none⟩ = some (.string b))
    (refine hSS.out _ ?_ <;> first | exact Below.drew (Below.refl _ _) | exact below_then (And.left (by assumption)) (by assumption) | exact below_then (Below.drew (Below.refl _ _)) (by assumption) | assumption)
    (first | (go_at_call 30; ((with_reducible refine (cD.out _ (And.left (by assumption))).mono ?_); rintro e wx ⟨rfl, hbx⟩)) | (go_at_call 17; ((with_reducible refine (cR.out _).mono ?_); rintro e wy ⟨rfl, hby⟩)) | (go_at_call 23; ((with_reducible refine (cW.out _ (And.left (by assumption))).mono ?_); rintro e wz ⟨rfl, hbz⟩)))
  all_goals
    go_wp2
    go_ret2
    exact ⟨hfin.out, below_then hB'.out (by first | exact And.left (by assumption) | exact below_then (And.left (by assumption)) (by assumption) | assumption)⟩
end Go.Proofs.YtiaollhiggeolaaDoor.Ht
