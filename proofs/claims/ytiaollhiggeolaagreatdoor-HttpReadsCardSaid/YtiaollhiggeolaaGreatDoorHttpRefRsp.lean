/-
  THE WALK OF THE REFERENCE OF LAYER http: Response.
-/
import Derived.Test.YtiaollhiggeolaaGreatDoorHttpRefReq
set_option linter.unusedVariables false
namespace Go.Proofs.YtiaollhiggeolaaGreatDoor.Ht
open Go.Lib Go.RowKit Go.Shelf

theorem firstA_cut {s v r d y : ByteArray} {b0 b1 : Bool} (h1 : Cut1 32 s v r b0) (h2 : Cut1 32 r d y b1) : firstA s.data.toList = if b1 = true ∧ v.data.toList = verS ∧ d.data.toList.length = 3 ∧ rng 48 57 false d.data.toList = true ∧ (49 ≤ (d.data.toList.getD 0 0).toNat ∧ (d.data.toList.getD 0 0).toNat ≤ 53) ∧ rng 32 126 false y.data.toList = true then
    some (100 * ((d.data.toList.getD 0 0).toNat - 48) + 10 * ((d.data.toList.getD 1 0).toNat - 48) + ((d.data.toList.getD 2 0).toNat - 48)) else none := by
  obtain ⟨_, _, h1⟩ := h1
  obtain ⟨_, _, h2⟩ := h2
  unfold firstA
  rcases h1 with ⟨_, h1⟩ | ⟨_, h1, rfl, rfl⟩
  · rw [h1, Option.bind_some]
    simp only
    rcases h2 with ⟨rfl, h2⟩ | ⟨rfl, h2, rfl, rfl⟩
    · rw [h2, Option.bind_some]
      simp only [true_and]
    · rw [h2, Option.bind_none, if_neg (fun h => by cases h.1)]
  · rw [h1, Option.bind_none]
    rcases h2 with ⟨_, h2⟩ | ⟨rfl, h2, rfl, rfl⟩
    · simp [cutB] at h2
    · rw [if_neg (fun h => by cases h.1)]
theorem getD_at {d : ByteArray} {j : Nat} (h : j < d.size) : d.data.toList.getD j 0 = d[j]'h := by
  rw [List.getD_eq_getElem?_getD, List.getElem?_eq_getElem (by rw [← Lib.size_eq]; exact h)]; rfl
set_option maxHeartbeats 16000000 in
set_option maxRecDepth 100000 in
theorem refResponse_any (s : ByteArray) (w : World) (hs : s.size ≤ 140737488355328) : Calls Tryz.prog 9 #[.string s] w fun e w' => AnsA (readA s.data.toList) e w' ∧ Below w.heap.size w w' := by
  have O0 : (w.alloc (.cells #[.int .i64 0, .slice none 0 0, .string ⟨#[]⟩] 33)).heap[w.heap.size]? = some (.cells #[.int .i64 0, .slice none 0 0, .string ⟨#[]⟩] 33 (0, 0)) := heap_alloc_new w _
  have b0 : Below w.heap.size w (w.alloc (.cells #[.int .i64 0, .slice none 0 0, .string ⟨#[]⟩] 33)) := (Below.refl _ _).alloc (Nat.le_refl _) _
  have cH := refHead_any s (w.alloc (.cells #[.int .i64 0, .slice none 0 0, .string ⟨#[]⟩] 33)) hs
  have b0' := Lib.hid b0
  have O0' := Lib.hid O0
  have hsz' := Lib.hid (show s.size = s.data.toList.length from Lib.size_eq s)
  clear b0 O0
  go_enter Tryz.func9, Tryz.ntmps9
  go_wp2_with fail
  go_at_call 14
  with_reducible refine cH.mono ?_
  rintro e w1 ⟨hH, hb⟩
  have O1 := Lib.hid ((hb.block _ (Array.getElem?_eq_some_iff.1 O0'.out).1).trans O0'.out)
  have B1 := Lib.hid (below_then b0'.out hb)
  clear hb b0' O0' cH
  rcases hH with ⟨rows, k, v, hd, hne, hk, hk8, rfl, hss, hrl, hrn⟩ | ⟨h1, h2, rfl⟩ | ⟨h1, h2, rfl⟩
  rotate_left
  · have hX : Hid (∀ W, AnsA (readA s.data.toList) (.returned (.tuple #[.agg #[.int .i64 0, .slice none 0 0, .string ⟨#[]⟩], .int .i64 0, .int .i64 91])) W) := Lib.hid fun W => by
      unfold readA
      rw [readM_none h1, if_pos h2]
      exact ⟨.slice none 0 0, rfl, FsAt.nil W none⟩
    clear h1 h2
    obtain ⟨c0, c1, c2, f0, f1, f2⟩ := res3 O1.out
    go_wp2
    exact bodyPost_ret (v := .tuple #[.agg #[.int .i64 0, .slice none 0 0, .string ⟨#[]⟩], .int .i64 0, .int .i64 91]) (by simp [results, Tryz.results9, go_sem, c0, c1, c2]) rfl ⟨hX.out _, (((B1.out.setCell (p := ⟨w.heap.size, 0, none⟩) (Nat.le_refl _) _).setCell (p := ⟨w.heap.size, 1, none⟩) (Nat.le_refl _) _).setCell (p := ⟨w.heap.size, 2, none⟩) (Nat.le_refl _) _)⟩
  · have hX : Hid (∀ W, AnsA (readA s.data.toList) (.returned (.tuple #[.agg #[.int .i64 0, .slice none 0 0, .string ⟨#[]⟩], .int .i64 0, .int .i64 80])) W) := Lib.hid fun W => by
      unfold readA
      rw [readM_none h1, if_neg h2]
      exact ⟨.slice none 0 0, rfl, FsAt.nil W none⟩
    clear h1 h2
    obtain ⟨c0, c1, c2, f0, f1, f2⟩ := res3 O1.out
    go_wp2
    exact bodyPost_ret (v := .tuple #[.agg #[.int .i64 0, .slice none 0 0, .string ⟨#[]⟩], .int .i64 0, .int .i64 80]) (by simp [results, Tryz.results9, go_sem, c0, c1, c2]) rfl ⟨hX.out _, (((B1.out.setCell (p := ⟨w.heap.size, 0, none⟩) (Nat.le_refl _) _).setCell (p := ⟨w.heap.size, 1, none⟩) (Nat.le_refl _) _).setCell (p := ⟨w.heap.size, 2, none⟩) (Nat.le_refl _) _)⟩
  obtain ⟨r, rs, rfl⟩ : ∃ r rs, rows = r :: rs := by
    cases rows with
    | nil => exact absurd rfl hne
    | cons r rs => exact ⟨r, rs, rfl⟩
  obtain ⟨b, off, c, x, rfl, hc1, hc2, dx, cx, hst, hst0, hbl⟩ := hss.head
  have hd' := Lib.hid hd
  have hxz : x.size ≤ 8192 := by rw [Lib.size_eq, dx]; exact hrl r (by simp)
  have hrl' : Hid (∀ q ∈ rs, q.length ≤ 8192) := Lib.hid fun q hq => hrl q (by simp [hq])
  have hN8 : rs.length ≤ 8192 := by simp at hrn; omega
  have hks : k ≤ s.size := by rw [hsz'.out]; exact hk
  obtain ⟨N, hN⟩ : ∃ N, rs.length = N := ⟨_, rfl⟩
  rw [hN] at hc1 hst hst0 hN8 ⊢
  have cC : Calls Tryz.prog 15 #[.string x, .int .u8 32] w1 _ := refCut1 32 x w1 (by omega)
  have hst' := Lib.hid hst
  have hst0' := Lib.hid hst0
  have hN' := Lib.hid hN
  have dx' := Lib.hid dx
  clear hd hne hk hss hst hst0 hN dx hrl hrn
  go_wp2_with fail
  go_at_call 15
  with_reducible refine cC.mono ?_
  rintro e w2 ⟨⟨m, rest, b1, rfl, h1⟩, hb2⟩
  have hmz := h1.1
  have hrz := h1.2.1
  have O2 := Lib.hid ((hb2.block _ (Array.getElem?_eq_some_iff.1 O1.out).1).trans O1.out)
  have B2 := Lib.hid (below_then B1.out hb2)
  have hst2 := Lib.hid (hst'.out.kept hb2)
  have hst02 := Lib.hid (fun e => ((hst0'.out e).kept hb2 : SsAt w2 _ _))
  have h1' := Lib.hid h1
  have cD : Calls Tryz.prog 15 #[.string rest, .int .u8 32] w2 _ := refCut1 32 rest w2 (by omega)
  clear cC hb2 O1 B1 hst' h1 cx
  go_wp2_with fail
  go_at_call 15
  with_reducible refine cD.mono ?_
  rintro e w3 ⟨⟨t, last, b2, rfl, h2⟩, hb3⟩
  have htz := h2.1
  have hlz := h2.2.1
  have O3 := Lib.hid ((hb3.block _ (Array.getElem?_eq_some_iff.1 O2.out).1).trans O2.out)
  have B3 := Lib.hid (below_then B2.out hb3)
  have hst3 := hst2.out.kept hb3
  have hst03 := Lib.hid (fun e => ((hst02.out e).kept hb3 : SsAt w3 _ _))
  have h2' := Lib.hid h2
  have cR := refFields_any _ rs w3 hst3 hrl'.out (by rw [hN'.out]; omega)
  have cR0 : Hid (c = 1 → Calls Tryz.prog 16 #[.slice (some ⟨b, off, none⟩) N 0] w3 _) := Lib.hid fun e => refFields_any _ rs w3 (hst03.out e) hrl'.out (by rw [hN'.out]; omega)
  clear cD hb3 O2 B2 hst2 hst3 hst02 h2 hst0' hst03
  have g1 : 1 ≤ N + 1 := by omega
  go_wp2_with fail
  all_goals
    go_at_call 16
    first
      | (with_reducible refine cR.mono ?_)
      | (with_reducible refine (cR0.out (by omega)).mono ?_)
    rintro e w4 ⟨hR, hb4⟩
    have O4 := Lib.hid ((hb4.block _ (Array.getElem?_eq_some_iff.1 O3.out).1).trans O3.out)
    have B4 := Lib.hid (below_then B3.out hb4)
    have hz3 : w.heap.size < w3.heap.size := (Array.getElem?_eq_some_iff.1 O3.out).1
    clear cR cR0 hb4 O3 B3 g1
    rcases hR with ⟨fs, n, fv, hf, hn, rfl, hown⟩ | ⟨hf, fv, z, rfl⟩
    rotate_left
    · have hX : Hid (∀ W, AnsA (readA s.data.toList) (.returned (.tuple #[.agg #[.int .i64 0, .slice none 0 0, .string ⟨#[]⟩], .int .i64 0, .int .i64 80])) W) := Lib.hid fun W => by
        unfold readA
        rw [readM_bad hd'.out (.inr hf)]
        exact ⟨.slice none 0 0, rfl, FsAt.nil W none⟩
      clear hf
      cases b2 with
      | false =>
        obtain ⟨c0, c1, c2, f0, f1, f2⟩ := res3 O4.out
        go_wp2
        exact bodyPost_ret (v := .tuple #[.agg #[.int .i64 0, .slice none 0 0, .string ⟨#[]⟩], .int .i64 0, .int .i64 80]) (by simp [results, Tryz.results9, go_sem, c0, c1, c2]) rfl ⟨hX.out _, (((B4.out.setCell (p := ⟨w.heap.size, 0, none⟩) (Nat.le_refl _) _).setCell (p := ⟨w.heap.size, 1, none⟩) (Nat.le_refl _) _).setCell (p := ⟨w.heap.size, 2, none⟩) (Nat.le_refl _) _)⟩
      | true =>
        obtain ⟨c0, c1, c2, f0, f1, f2⟩ := res3 O4.out
        go_wp2
        exact bodyPost_ret (v := .tuple #[.agg #[.int .i64 0, .slice none 0 0, .string ⟨#[]⟩], .int .i64 0, .int .i64 80]) (by simp [results, Tryz.results9, go_sem, c0, c1, c2]) rfl ⟨hX.out _, (((B4.out.setCell (p := ⟨w.heap.size, 0, none⟩) (Nat.le_refl _) _).setCell (p := ⟨w.heap.size, 1, none⟩) (Nat.le_refl _) _).setCell (p := ⟨w.heap.size, 2, none⟩) (Nat.le_refl _) _)⟩
    have hf' := Lib.hid hf
    obtain ⟨ao, cp, rfl⟩ := hown.form
    obtain ⟨nf, hnf⟩ : ∃ nf, fs.length = nf := ⟨_, rfl⟩
    rw [hnf] at hown ⊢
    have hown' := Lib.hid hown
    have hq := firstA_cut h1'.out h2'.out
    rw [dx'.out, ← Lib.size_eq] at hq
    have hq' := Lib.hid hq
    have c7 : Calls Tryz.prog 20 #[.string t, .int .u8 48, .int .u8 57, .bool false] w4 _ := refRange_any t 48 57 false w4 (by decide) (by decide) (by omega)
    have c8 : Calls Tryz.prog 20 #[.string last, .int .u8 32, .int .u8 126, .bool false] w4 _ := refRange_any last 32 126 false w4 (by decide) (by decide) (by omega)
    obtain ⟨L, hL⟩ : ∃ L, (m.toList == [72, 84, 84, 80, 47, 49, 46, 49]) = L := ⟨_, rfl⟩
    have l3 : (m.toList != [72, 84, 84, 80, 47, 49, 46, 49]) = !L := by rw [bne, hL]
    have hLv : Hid (L = true ↔ m.data.toList = verS) := Lib.hid (by rw [← hL, Lib.toList_data, beq_iff_eq]; exact Iff.rfl)
    obtain ⟨R1, hR1⟩ : ∃ R, rng 48 57 false t.data.toList = R := ⟨_, rfl⟩
    obtain ⟨R2, hR2⟩ : ∃ R, rng 32 126 false last.data.toList = R := ⟨_, rfl⟩
    rw [hR1] at c7
    rw [hR2] at c8
    have hR1' := Lib.hid hR1
    have hR2' := Lib.hid hR2
    clear hf hown hnf hq hR1 hR2
    cases b2 with
    | false =>
      have hX : Hid (∀ W, AnsA (readA s.data.toList) (.returned (.tuple #[.agg #[.int .i64 0, .slice none 0 0, .string ⟨#[]⟩], .int .i64 0, .int .i64 80])) W) := Lib.hid fun W => by
        unfold readA
        rw [readM_bad hd'.out (.inl (by rw [hq'.out, if_neg (fun h => by cases h.1)]))]
        exact ⟨.slice none 0 0, rfl, FsAt.nil W none⟩
      obtain ⟨c0, c1, c2, f0, f1, f2⟩ := res3 O4.out
      go_wp2
      exact bodyPost_ret (v := .tuple #[.agg #[.int .i64 0, .slice none 0 0, .string ⟨#[]⟩], .int .i64 0, .int .i64 80]) (by simp [results, Tryz.results9, go_sem, c0, c1, c2]) rfl ⟨hX.out _, (((B4.out.setCell (p := ⟨w.heap.size, 0, none⟩) (Nat.le_refl _) _).setCell (p := ⟨w.heap.size, 1, none⟩) (Nat.le_refl _) _).setCell (p := ⟨w.heap.size, 2, none⟩) (Nat.le_refl _) _)⟩
    | true =>
    cases L with
    | false =>
      have hX : Hid (∀ W, AnsA (readA s.data.toList) (.returned (.tuple #[.agg #[.int .i64 0, .slice none 0 0, .string ⟨#[]⟩], .int .i64 0, .int .i64 80])) W) := Lib.hid fun W => by
        unfold readA
        rw [readM_bad hd'.out (.inl (by rw [hq'.out, if_neg (fun h => by have := hLv.out.2 h.2.1; cases this)]))]
        exact ⟨.slice none 0 0, rfl, FsAt.nil W none⟩
      obtain ⟨c0, c1, c2, f0, f1, f2⟩ := res3 O4.out
      go_wp2
      exact bodyPost_ret (v := .tuple #[.agg #[.int .i64 0, .slice none 0 0, .string ⟨#[]⟩], .int .i64 0, .int .i64 80]) (by simp [results, Tryz.results9, go_sem, c0, c1, c2]) rfl ⟨hX.out _, (((B4.out.setCell (p := ⟨w.heap.size, 0, none⟩) (Nat.le_refl _) _).setCell (p := ⟨w.heap.size, 1, none⟩) (Nat.le_refl _) _).setCell (p := ⟨w.heap.size, 2, none⟩) (Nat.le_refl _) _)⟩
    | true =>
    by_cases e3 : t.size = 3
    rotate_left
    · have hX : Hid (∀ W, AnsA (readA s.data.toList) (.returned (.tuple #[.agg #[.int .i64 0, .slice none 0 0, .string ⟨#[]⟩], .int .i64 0, .int .i64 80])) W) := Lib.hid fun W => by
        unfold readA
        rw [readM_bad hd'.out (.inl (by rw [hq'.out, if_neg (fun h => e3 h.2.2.1)]))]
        exact ⟨.slice none 0 0, rfl, FsAt.nil W none⟩
      have g3 : ((t.size : Int) != 3) = true := bne_iff_ne.2 (by omega)
      have g4 : ((t.size : Int) == 3) = false := beq_false_of_ne (by omega)
      obtain ⟨c0, c1, c2, f0, f1, f2⟩ := res3 O4.out
      go_wp2
      exact bodyPost_ret (v := .tuple #[.agg #[.int .i64 0, .slice none 0 0, .string ⟨#[]⟩], .int .i64 0, .int .i64 80]) (by simp [results, Tryz.results9, go_sem, c0, c1, c2]) rfl ⟨hX.out _, (((B4.out.setCell (p := ⟨w.heap.size, 0, none⟩) (Nat.le_refl _) _).setCell (p := ⟨w.heap.size, 1, none⟩) (Nat.le_refl _) _).setCell (p := ⟨w.heap.size, 2, none⟩) (Nat.le_refl _) _)⟩
    have k0 : 0 < t.size := by omega
    have k1 : 1 < t.size := by omega
    have k2 : 2 < t.size := by omega
    obtain ⟨d0, hd0⟩ : ∃ d, (t[0]'k0).toNat = d := ⟨_, rfl⟩
    obtain ⟨d1, hd1⟩ : ∃ d, (t[1]'k1).toNat = d := ⟨_, rfl⟩
    obtain ⟨d2, hd2⟩ : ∃ d, (t[2]'k2).toNat = d := ⟨_, rfl⟩
    have hq2 := hq'.out
    rw [getD_at k0, getD_at k1, getD_at k2, hd0, hd1, hd2] at hq2
    have hq2' := Lib.hid hq2
    clear hq2 hq'
    have g3 : ((t.size : Int) != 3) = false := by rw [e3]; rfl
    have g4 : ((t.size : Int) == 3) = true := by rw [e3]; rfl
    have e3' := Lib.hid e3
    by_cases e4 : d0 < 49
    · have hX : Hid (∀ W, AnsA (readA s.data.toList) (.returned (.tuple #[.agg #[.int .i64 0, .slice none 0 0, .string ⟨#[]⟩], .int .i64 0, .int .i64 80])) W) := Lib.hid fun W => by
        unfold readA
        rw [readM_bad hd'.out (.inl (by rw [hq2'.out, if_neg (fun h => by have := h.2.2.2.2.1; omega)]))]
        exact ⟨.slice none 0 0, rfl, FsAt.nil W none⟩
      obtain ⟨c0, c1, c2, f0, f1, f2⟩ := res3 O4.out
      go_wp2
      exact bodyPost_ret (v := .tuple #[.agg #[.int .i64 0, .slice none 0 0, .string ⟨#[]⟩], .int .i64 0, .int .i64 80]) (by simp [results, Tryz.results9, go_sem, c0, c1, c2]) rfl ⟨hX.out _, (((B4.out.setCell (p := ⟨w.heap.size, 0, none⟩) (Nat.le_refl _) _).setCell (p := ⟨w.heap.size, 1, none⟩) (Nat.le_refl _) _).setCell (p := ⟨w.heap.size, 2, none⟩) (Nat.le_refl _) _)⟩
    by_cases e5 : 53 < d0
    · have hX : Hid (∀ W, AnsA (readA s.data.toList) (.returned (.tuple #[.agg #[.int .i64 0, .slice none 0 0, .string ⟨#[]⟩], .int .i64 0, .int .i64 80])) W) := Lib.hid fun W => by
        unfold readA
        rw [readM_bad hd'.out (.inl (by rw [hq2'.out, if_neg (fun h => by have := h.2.2.2.2.1; omega)]))]
        exact ⟨.slice none 0 0, rfl, FsAt.nil W none⟩
      obtain ⟨c0, c1, c2, f0, f1, f2⟩ := res3 O4.out
      go_wp2
      exact bodyPost_ret (v := .tuple #[.agg #[.int .i64 0, .slice none 0 0, .string ⟨#[]⟩], .int .i64 0, .int .i64 80]) (by simp [results, Tryz.results9, go_sem, c0, c1, c2]) rfl ⟨hX.out _, (((B4.out.setCell (p := ⟨w.heap.size, 0, none⟩) (Nat.le_refl _) _).setCell (p := ⟨w.heap.size, 1, none⟩) (Nat.le_refl _) _).setCell (p := ⟨w.heap.size, 2, none⟩) (Nat.le_refl _) _)⟩
    cases R1 with
    | false =>
      have hX : Hid (∀ W, AnsA (readA s.data.toList) (.returned (.tuple #[.agg #[.int .i64 0, .slice none 0 0, .string ⟨#[]⟩], .int .i64 0, .int .i64 80])) W) := Lib.hid fun W => by
        unfold readA
        rw [readM_bad hd'.out (.inl (by rw [hq2'.out, if_neg (fun h => by rw [hR1'.out] at h; cases h.2.2.2.1)]))]
        exact ⟨.slice none 0 0, rfl, FsAt.nil W none⟩
      go_wp2_with fail
      go_at_call 20
      with_reducible refine c7.mono ?_
      rintro e w5 ⟨rfl, rfl⟩
      obtain ⟨c0, c1, c2, f0, f1, f2⟩ := res3 O4.out
      go_wp2
      exact bodyPost_ret (v := .tuple #[.agg #[.int .i64 0, .slice none 0 0, .string ⟨#[]⟩], .int .i64 0, .int .i64 80]) (by simp [results, Tryz.results9, go_sem, c0, c1, c2]) rfl ⟨hX.out _, (((B4.out.setCell (p := ⟨w.heap.size, 0, none⟩) (Nat.le_refl _) _).setCell (p := ⟨w.heap.size, 1, none⟩) (Nat.le_refl _) _).setCell (p := ⟨w.heap.size, 2, none⟩) (Nat.le_refl _) _)⟩
    | true =>
    cases R2 with
    | false =>
      have hX : Hid (∀ W, AnsA (readA s.data.toList) (.returned (.tuple #[.agg #[.int .i64 0, .slice none 0 0, .string ⟨#[]⟩], .int .i64 0, .int .i64 80])) W) := Lib.hid fun W => by
        unfold readA
        rw [readM_bad hd'.out (.inl (by rw [hq2'.out, if_neg (fun h => by rw [hR2'.out] at h; cases h.2.2.2.2.2)]))]
        exact ⟨.slice none 0 0, rfl, FsAt.nil W none⟩
      go_wp2_with fail
      go_at_call 20
      with_reducible refine c7.mono ?_
      rintro e w5 ⟨rfl, rfl⟩
      go_wp2_with fail
      go_at_call 20
      with_reducible refine c8.mono ?_
      rintro e w6 ⟨rfl, rfl⟩
      obtain ⟨c0, c1, c2, f0, f1, f2⟩ := res3 O4.out
      go_wp2
      exact bodyPost_ret (v := .tuple #[.agg #[.int .i64 0, .slice none 0 0, .string ⟨#[]⟩], .int .i64 0, .int .i64 80]) (by simp [results, Tryz.results9, go_sem, c0, c1, c2]) rfl ⟨hX.out _, (((B4.out.setCell (p := ⟨w.heap.size, 0, none⟩) (Nat.le_refl _) _).setCell (p := ⟨w.heap.size, 1, none⟩) (Nat.le_refl _) _).setCell (p := ⟨w.heap.size, 2, none⟩) (Nat.le_refl _) _)⟩
    | true =>
    have hdig : Hid ((48 ≤ d1 ∧ d1 ≤ 57) ∧ (48 ≤ d2 ∧ d2 ≤ 57)) := Lib.hid (by
      have h := hR1'.out
      rw [rng_isD, List.all_eq_true] at h
      have i1 : Ch.isD (t[1]'k1) = true := h _ (List.getElem_mem (by rw [← Lib.size_eq]; exact k1))
      have i2 : Ch.isD (t[2]'k2) = true := h _ (List.getElem_mem (by rw [← Lib.size_eq]; exact k2))
      have i1 := of_decide_eq_true i1
      have i2 := of_decide_eq_true i2
      omega)
    obtain ⟨⟨j1, j2⟩, j3, j4⟩ := hdig.out
    go_wp2_with fail
    go_at_call 20
    with_reducible refine c7.mono ?_
    rintro e w5 ⟨rfl, rfl⟩
    go_wp2_with fail
    go_at_call 20
    with_reducible refine c8.mono ?_
    rintro e w6 ⟨rfl, rfl⟩
    have hrd : Hid (readA s.data.toList = if s.data.toList.length - k < n then .inr 91 else .inl ((100 * (d0 - 48) + 10 * (d1 - 48) + (d2 - 48)), fs, (s.data.toList.drop k).take n, k + n)) := Lib.hid (readM_ok hd'.out (hq2'.out.trans (if_pos ⟨by simp, hLv.out.1 (by simp), e3'.out, hR1'.out, ⟨by omega, by omega⟩, hR2'.out⟩)) hf'.out)
    have e5 : IntKind.i64.wrap ((s.size : Int) - (k : Int)) = (s.size : Int) - (k : Int) := IntWalk.i64_in _ (by omega)
    by_cases hlt : s.size - k < n
    · have hX : Hid (∀ W, AnsA (readA s.data.toList) (.returned (.tuple #[.agg #[.int .i64 0, .slice none 0 0, .string ⟨#[]⟩], .int .i64 0, .int .i64 91])) W) := Lib.hid fun W => by
        rw [hrd.out, if_pos (by rw [← hsz'.out]; exact hlt)]
        exact ⟨.slice none 0 0, rfl, FsAt.nil W none⟩
      have q1 : (s.size : Int) - (k : Int) < (n : Int) := by omega
      obtain ⟨c0, c1, c2, f0, f1, f2⟩ := res3 O4.out
      go_wp2
      exact bodyPost_ret (v := .tuple #[.agg #[.int .i64 0, .slice none 0 0, .string ⟨#[]⟩], .int .i64 0, .int .i64 91]) (by simp [results, Tryz.results9, go_sem, c0, c1, c2]) rfl ⟨hX.out _, (((B4.out.setCell (p := ⟨w.heap.size, 0, none⟩) (Nat.le_refl _) _).setCell (p := ⟨w.heap.size, 1, none⟩) (Nat.le_refl _) _).setCell (p := ⟨w.heap.size, 2, none⟩) (Nat.le_refl _) _)⟩
    · obtain ⟨E, hE⟩ : ∃ E, k + n = E := ⟨_, rfl⟩
      have hEz : (k : Int) + (n : Int) = (E : Int) := by omega
      obtain ⟨Y, hY⟩ : ∃ Y, 100 * (d0 - 48) + 10 * (d1 - 48) + (d2 - 48) = Y := ⟨_, rfl⟩
      have hYz : 100 * ((d0 : Int) - 48) + 10 * ((d1 : Int) - 48) + ((d2 : Int) - 48) = (Y : Int) := by omega
      have hX : Hid (∀ W, FsAt W (.slice ao nf cp) fs → AnsA (readA s.data.toList) (.returned (.tuple #[.agg #[.int .i64 (Y : Int), .slice ao nf cp, .string (s.extract k E)], .int .i64 (E : Int), .int .i64 0])) W) := Lib.hid fun W hfs => by
        rw [hrd.out, if_neg (by rw [← hsz'.out]; exact hlt), hE, hY]
        refine ⟨.slice ao nf cp, ?_, hfs⟩
        rw [← sv_data (s.extract k E), Lib.extract_data, show E - k = n by omega]
      have q1 : ¬ (s.size : Int) - (k : Int) < (n : Int) := by omega
      have q3 : E ≤ s.size := by omega
      have q5 : (0 : Int) ≤ (k : Int) := by omega
      have q6 : (k : Int) ≤ (E : Int) := by omega
      have q7 : (E : Int) ≤ (s.size : Int) := by omega
      have q8 : k ≤ E := by omega
      clear hE hrd hY
      obtain ⟨c0, c1, c2, f0, f1, f2⟩ := res3 O4.out
      go_wp2
      go_quiet (fail)
      go_wp2
      exact bodyPost_ret (v := .tuple #[.agg #[.int .i64 (Y : Int), .slice ao nf cp, .string (s.extract k E)], .int .i64 (E : Int), .int .i64 0]) (by simp [results, Tryz.results9, go_sem, c0, c1, c2]) rfl ⟨hX.out _ (FsOwn.at (fs_set (fs_set (fs_set hown'.out hz3 _) hz3 _) hz3 _)), ((((below_drewN _ B4.out).setCell (p := ⟨w.heap.size, 0, none⟩) (Nat.le_refl _) _).setCell (p := ⟨w.heap.size, 1, none⟩) (Nat.le_refl _) _).setCell (p := ⟨w.heap.size, 2, none⟩) (Nat.le_refl _) _)⟩
end Go.Proofs.YtiaollhiggeolaaGreatDoor.Ht
