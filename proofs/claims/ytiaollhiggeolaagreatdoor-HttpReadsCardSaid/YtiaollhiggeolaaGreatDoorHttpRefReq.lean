/-
  THE WALK OF THE REFERENCE OF LAYER http: Request.
-/
import Derived.Test.YtiaollhiggeolaaGreatDoorHttpRefFlds
import Derived.Test.YtiaollhiggeolaaGreatDoorHttpCodeI
set_option linter.unusedVariables false
namespace Go.Proofs.YtiaollhiggeolaaGreatDoor.Ht
open Go.Lib Go.RowKit Go.Shelf

theorem SsAt.head {w : World} {v : Value} {r : Row} {rs : List Row} (h : SsAt w v (r :: rs)) : ∃ (b off c : Nat) (x : ByteArray), v = .slice (some ⟨b, off, none⟩) (rs.length + 1) c ∧ rs.length + 1 ≤ c ∧ c ≤ 9223372036854775807 ∧ x.data.toList = r ∧ w.cell? ⟨b, off, none⟩ = some (.string x) ∧
    SsAt w (.slice (some ⟨b, off + 1, none⟩) rs.length (c - 1)) rs ∧ (c = 1 → SsAt w (.slice (some ⟨b, off, none⟩) rs.length 0) rs) ∧ b < w.heap.size := by
  obtain ⟨A, b, off, c, h1, h2, h3, h4, h5⟩ := h
  obtain ⟨rfl, hlt⟩ := h4 (by simp)
  obtain ⟨x, hx, dx⟩ := sv_some r
  have c0 := h5 0 r rfl
  rw [hx] at c0
  rw [List.length_cons] at h2
  unfold maxLen at h3
  refine ⟨b, off, c, x, by rw [h1]; rfl, h2, by omega, dx, c0, ⟨_, b, off + 1, c - 1, rfl, by omega, by unfold maxLen; omega, fun _ => ⟨rfl, hlt⟩, fun j l hj => ?_⟩, fun hc => ?_, hlt⟩
  · have := h5 (j + 1) l (by simpa using hj)
    rw [show off + 1 + j = off + (j + 1) by omega]; exact this
  · have : rs = [] := List.eq_nil_of_length_eq_zero (by omega)
    subst this
    exact ⟨_, b, off, 0, rfl, Nat.le_refl _, Nat.zero_le _, (fun h => absurd h (by simp)), fun j l hj => by simp at hj⟩
theorem readM_none {α : Type} {first : Row → Option α} {b : Row} (h : hdA true (b.take 8192) = none) : readM first b = .inr (if b.length < 8192 then 91 else 80) := by
  unfold readM
  rw [h]
  simp only
  split <;> rfl
theorem readM_bad {α : Type} {first : Row → Option α} {b r : Row} {rs : List Row} {k : Nat} (h : hdA true (b.take 8192) = some (r :: rs, k)) (hb : first r = none ∨ fields rs = none) : readM first b = .inr 80 := by
  unfold readM
  rw [h]
  simp only
  rcases hb with hb | hb
  · rw [hb]
  · rw [hb]
    cases first r <;> rfl
theorem readM_ok {α : Type} {first : Row → Option α} {b r : Row} {rs : List Row} {k n : Nat} {x : α} {fs : List Fd} (h : hdA true (b.take 8192) = some (r :: rs, k)) (h1 : first r = some x) (h2 : fields rs = some (fs, n)) :
    readM first b = if b.length - k < n then .inr 91 else .inl (x, fs, (b.drop k).take n, k + n) := by
  unfold readM
  rw [h]
  simp only
  rw [h1, h2]
set_option maxHeartbeats 16000000 in
set_option maxRecDepth 100000 in
theorem refRequest_any (s : ByteArray) (w : World) (hs : s.size ≤ 140737488355328) : Calls Tryz.prog 6 #[.string s] w fun e w' => AnsQ (readQ s.data.toList) e w' ∧ Below w.heap.size w w' := by
  have O0 : (w.alloc (.cells #[.string ⟨#[]⟩, .string ⟨#[]⟩, .slice none 0 0, .string ⟨#[]⟩] 25)).heap[w.heap.size]? = some (.cells #[.string ⟨#[]⟩, .string ⟨#[]⟩, .slice none 0 0, .string ⟨#[]⟩] 25 (0, 0)) := heap_alloc_new w _
  have b0 : Below w.heap.size w (w.alloc (.cells #[.string ⟨#[]⟩, .string ⟨#[]⟩, .slice none 0 0, .string ⟨#[]⟩] 25)) := (Below.refl _ _).alloc (Nat.le_refl _) _
  have cH := refHead_any s (w.alloc (.cells #[.string ⟨#[]⟩, .string ⟨#[]⟩, .slice none 0 0, .string ⟨#[]⟩] 25)) hs
  have b0' := Lib.hid b0
  have O0' := Lib.hid O0
  have hsz' := Lib.hid (show s.size = s.data.toList.length from Lib.size_eq s)
  clear b0 O0
  go_enter Tryz.func6, Tryz.ntmps6
  go_wp2_with fail
  go_at_call 14
  with_reducible refine cH.mono ?_
  rintro e w1 ⟨hH, hb⟩
  have O1 := Lib.hid ((hb.block _ (Array.getElem?_eq_some_iff.1 O0'.out).1).trans O0'.out)
  have B1 := Lib.hid (below_then b0'.out hb)
  clear hb b0' O0' cH
  rcases hH with ⟨rows, k, v, hd, hne, hk, hk8, rfl, hss, hrl, hrn⟩ | ⟨h1, h2, rfl⟩ | ⟨h1, h2, rfl⟩
  rotate_left
  · have hX : Hid (∀ W, AnsQ (readQ s.data.toList) (.returned (.tuple #[.agg #[.string ⟨#[]⟩, .string ⟨#[]⟩, .slice none 0 0, .string ⟨#[]⟩], .int .i64 0, .int .i64 91])) W) := Lib.hid fun W => by
      unfold readQ
      rw [readM_none h1, if_pos h2]
      exact ⟨.slice none 0 0, rfl, FsAt.nil W none⟩
    clear h1 h2
    obtain ⟨c0, c1, c2, c3, f0, f1, f2, f3⟩ := res4 O1.out
    go_wp2
    exact bodyPost_ret (v := .tuple #[.agg #[.string ⟨#[]⟩, .string ⟨#[]⟩, .slice none 0 0, .string ⟨#[]⟩], .int .i64 0, .int .i64 91]) (by simp [results, Tryz.results6, go_sem, c0, c1, c2, c3]) rfl ⟨hX.out _, ((((B1.out.setCell (p := ⟨w.heap.size, 0, none⟩) (Nat.le_refl _) _).setCell (p := ⟨w.heap.size, 1, none⟩) (Nat.le_refl _) _).setCell (p := ⟨w.heap.size, 2, none⟩) (Nat.le_refl _) _).setCell (p := ⟨w.heap.size, 3, none⟩) (Nat.le_refl _) _)⟩
  · have hX : Hid (∀ W, AnsQ (readQ s.data.toList) (.returned (.tuple #[.agg #[.string ⟨#[]⟩, .string ⟨#[]⟩, .slice none 0 0, .string ⟨#[]⟩], .int .i64 0, .int .i64 80])) W) := Lib.hid fun W => by
      unfold readQ
      rw [readM_none h1, if_neg h2]
      exact ⟨.slice none 0 0, rfl, FsAt.nil W none⟩
    clear h1 h2
    obtain ⟨c0, c1, c2, c3, f0, f1, f2, f3⟩ := res4 O1.out
    go_wp2
    exact bodyPost_ret (v := .tuple #[.agg #[.string ⟨#[]⟩, .string ⟨#[]⟩, .slice none 0 0, .string ⟨#[]⟩], .int .i64 0, .int .i64 80]) (by simp [results, Tryz.results6, go_sem, c0, c1, c2, c3]) rfl ⟨hX.out _, ((((B1.out.setCell (p := ⟨w.heap.size, 0, none⟩) (Nat.le_refl _) _).setCell (p := ⟨w.heap.size, 1, none⟩) (Nat.le_refl _) _).setCell (p := ⟨w.heap.size, 2, none⟩) (Nat.le_refl _) _).setCell (p := ⟨w.heap.size, 3, none⟩) (Nat.le_refl _) _)⟩
  obtain ⟨r, rs, rfl⟩ : ∃ r rs, rows = r :: rs := by
    cases rows with
    | nil => exact absurd rfl hne
    | cons r rs => exact ⟨r, rs, rfl⟩
  obtain ⟨b, off, c, x, rfl, hc1, hc2, dx, cx, hst, hst0, hbl⟩ := hss.head
  have hd' := Lib.hid hd
  have hxz : x.size ≤ 8192 := by rw [Lib.size_eq, dx]; exact hrl r (by simp)
  have hrl' : Hid (∀ q ∈ rs, q.length ≤ 8192) := Lib.hid fun q hq => hrl q (by simp [hq])
  have hN8 : rs.length ≤ 8192 := by simp at hrn; omega
  have hks : k ≤ s.size := by rw [hsz'.out]; exact hk
  obtain ⟨N, hN⟩ : ∃ N, rs.length = N := ⟨_, rfl⟩
  rw [hN] at hc1 hst hst0 hN8 ⊢
  have cC : Calls Tryz.prog 15 #[.string x, .int .u8 32] w1 _ := refCut1 32 x w1 (by omega)
  have hst' := Lib.hid hst
  have hst0' := Lib.hid hst0
  have hN' := Lib.hid hN
  have dx' := Lib.hid dx
  clear hd hne hk hss hst hst0 hN dx hrl hrn
  go_wp2_with fail
  go_at_call 15
  with_reducible refine cC.mono ?_
  rintro e w2 ⟨⟨m, rest, b1, rfl, h1⟩, hb2⟩
  have hmz := h1.1
  have hrz := h1.2.1
  have O2 := Lib.hid ((hb2.block _ (Array.getElem?_eq_some_iff.1 O1.out).1).trans O1.out)
  have B2 := Lib.hid (below_then B1.out hb2)
  have hst2 := Lib.hid (hst'.out.kept hb2)
  have hst02 := Lib.hid (fun e => ((hst0'.out e).kept hb2 : SsAt w2 _ _))
  have h1' := Lib.hid h1
  have cD : Calls Tryz.prog 15 #[.string rest, .int .u8 32] w2 _ := refCut1 32 rest w2 (by omega)
  clear cC hb2 O1 B1 hst' h1 cx
  go_wp2_with fail
  go_at_call 15
  with_reducible refine cD.mono ?_
  rintro e w3 ⟨⟨t, last, b2, rfl, h2⟩, hb3⟩
  have htz := h2.1
  have hlz := h2.2.1
  have O3 := Lib.hid ((hb3.block _ (Array.getElem?_eq_some_iff.1 O2.out).1).trans O2.out)
  have B3 := Lib.hid (below_then B2.out hb3)
  have hst3 := hst2.out.kept hb3
  have hst03 := Lib.hid (fun e => ((hst02.out e).kept hb3 : SsAt w3 _ _))
  have h2' := Lib.hid h2
  have cR := refFields_any _ rs w3 hst3 hrl'.out (by rw [hN'.out]; omega)
  have cR0 : Hid (c = 1 → Calls Tryz.prog 16 #[.slice (some ⟨b, off, none⟩) N 0] w3 _) := Lib.hid fun e => refFields_any _ rs w3 (hst03.out e) hrl'.out (by rw [hN'.out]; omega)
  clear cD hb3 O2 B2 hst2 hst3 hst02 h2 hst0' hst03
  have g1 : 1 ≤ N + 1 := by omega
  go_wp2_with fail
  all_goals
    go_at_call 16
    first
      | (with_reducible refine cR.mono ?_)
      | (with_reducible refine (cR0.out (by omega)).mono ?_)
    rintro e w4 ⟨hR, hb4⟩
    have O4 := Lib.hid ((hb4.block _ (Array.getElem?_eq_some_iff.1 O3.out).1).trans O3.out)
    have B4 := Lib.hid (below_then B3.out hb4)
    have hz3 : w.heap.size < w3.heap.size := (Array.getElem?_eq_some_iff.1 O3.out).1
    clear cR cR0 hb4 O3 B3 g1
    rcases hR with ⟨fs, n, fv, hf, hn, rfl, hown⟩ | ⟨hf, fv, z, rfl⟩
    rotate_left
    · have hX : Hid (∀ W, AnsQ (readQ s.data.toList) (.returned (.tuple #[.agg #[.string ⟨#[]⟩, .string ⟨#[]⟩, .slice none 0 0, .string ⟨#[]⟩], .int .i64 0, .int .i64 80])) W) := Lib.hid fun W => by
        unfold readQ
        rw [readM_bad hd'.out (.inr hf)]
        exact ⟨.slice none 0 0, rfl, FsAt.nil W none⟩
      clear hf
      obtain ⟨c0, c1, c2, c3, f0, f1, f2, f3⟩ := res4 O4.out
      go_wp2
      exact bodyPost_ret (v := .tuple #[.agg #[.string ⟨#[]⟩, .string ⟨#[]⟩, .slice none 0 0, .string ⟨#[]⟩], .int .i64 0, .int .i64 80]) (by simp [results, Tryz.results6, go_sem, c0, c1, c2, c3]) rfl ⟨hX.out _, ((((B4.out.setCell (p := ⟨w.heap.size, 0, none⟩) (Nat.le_refl _) _).setCell (p := ⟨w.heap.size, 1, none⟩) (Nat.le_refl _) _).setCell (p := ⟨w.heap.size, 2, none⟩) (Nat.le_refl _) _).setCell (p := ⟨w.heap.size, 3, none⟩) (Nat.le_refl _) _)⟩
    have hf' := Lib.hid hf
    obtain ⟨ao, cp, rfl⟩ := hown.form
    obtain ⟨nf, hnf⟩ : ∃ nf, fs.length = nf := ⟨_, rfl⟩
    rw [hnf] at hown ⊢
    have hown' := Lib.hid hown
    have hq := firstQ_is h1'.out h2'.out
    rw [dx'.out] at hq
    have cA := refAsked_any m t w4 (by unfold mostS; omega) (by unfold mostS; omega)
    rw [asked_is] at cA
    obtain ⟨K, hK⟩ : ∃ K, (mB m.data.toList && tB t.data.toList) = K := ⟨_, rfl⟩
    obtain ⟨L, hL⟩ : ∃ L, (last.toList == [72, 84, 84, 80, 47, 49, 46, 49]) = L := ⟨_, rfl⟩
    rw [← Bool.and_assoc, hK, hL] at hq
    rw [hK] at cA
    have l3 : (last.toList != [72, 84, 84, 80, 47, 49, 46, 49]) = !L := by rw [bne, hL]
    have hq' := Lib.hid hq
    clear hf hown hnf hq hK
    cases K with
    | false =>
      have hX : Hid (∀ W, AnsQ (readQ s.data.toList) (.returned (.tuple #[.agg #[.string ⟨#[]⟩, .string ⟨#[]⟩, .slice none 0 0, .string ⟨#[]⟩], .int .i64 0, .int .i64 80])) W) := Lib.hid fun W => by
        unfold readQ
        rw [readM_bad hd'.out (.inl (by rw [hq'.out]; simp))]
        exact ⟨.slice none 0 0, rfl, FsAt.nil W none⟩
      go_wp2_with fail
      go_at_call 17
      with_reducible refine cA.mono ?_
      rintro e w5 ⟨rfl, hb5⟩
      have O5 := Lib.hid ((hb5.block _ (Array.getElem?_eq_some_iff.1 O4.out).1).trans O4.out)
      have B5 := Lib.hid (below_then B4.out hb5)
      have hown5 := Lib.hid (hown'.out.kept hb5)
      clear cA hb5 O4 B4 hown'
      obtain ⟨c0, c1, c2, c3, f0, f1, f2, f3⟩ := res4 O5.out
      go_wp2
      exact bodyPost_ret (v := .tuple #[.agg #[.string ⟨#[]⟩, .string ⟨#[]⟩, .slice none 0 0, .string ⟨#[]⟩], .int .i64 0, .int .i64 80]) (by simp [results, Tryz.results6, go_sem, c0, c1, c2, c3]) rfl ⟨hX.out _, ((((B5.out.setCell (p := ⟨w.heap.size, 0, none⟩) (Nat.le_refl _) _).setCell (p := ⟨w.heap.size, 1, none⟩) (Nat.le_refl _) _).setCell (p := ⟨w.heap.size, 2, none⟩) (Nat.le_refl _) _).setCell (p := ⟨w.heap.size, 3, none⟩) (Nat.le_refl _) _)⟩
    | true =>
    go_wp2_with fail
    go_at_call 17
    with_reducible refine cA.mono ?_
    rintro e w5 ⟨rfl, hb5⟩
    have O5 := Lib.hid ((hb5.block _ (Array.getElem?_eq_some_iff.1 O4.out).1).trans O4.out)
    have B5 := Lib.hid (below_then B4.out hb5)
    have hown5 := Lib.hid (hown'.out.kept hb5)
    clear cA hb5 O4 B4 hown'
    cases L with
    | false =>
      have hX : Hid (∀ W, AnsQ (readQ s.data.toList) (.returned (.tuple #[.agg #[.string ⟨#[]⟩, .string ⟨#[]⟩, .slice none 0 0, .string ⟨#[]⟩], .int .i64 0, .int .i64 80])) W) := Lib.hid fun W => by
        unfold readQ
        rw [readM_bad hd'.out (.inl (by rw [hq'.out]; simp))]
        exact ⟨.slice none 0 0, rfl, FsAt.nil W none⟩
      obtain ⟨c0, c1, c2, c3, f0, f1, f2, f3⟩ := res4 O5.out
      go_wp2
      exact bodyPost_ret (v := .tuple #[.agg #[.string ⟨#[]⟩, .string ⟨#[]⟩, .slice none 0 0, .string ⟨#[]⟩], .int .i64 0, .int .i64 80]) (by simp [results, Tryz.results6, go_sem, c0, c1, c2, c3]) rfl ⟨hX.out _, ((((B5.out.setCell (p := ⟨w.heap.size, 0, none⟩) (Nat.le_refl _) _).setCell (p := ⟨w.heap.size, 1, none⟩) (Nat.le_refl _) _).setCell (p := ⟨w.heap.size, 2, none⟩) (Nat.le_refl _) _).setCell (p := ⟨w.heap.size, 3, none⟩) (Nat.le_refl _) _)⟩
    | true =>
    have hrd : Hid (readQ s.data.toList = if s.data.toList.length - k < n then .inr 91 else .inl ((m.data.toList, t.data.toList), fs, (s.data.toList.drop k).take n, k + n)) := Lib.hid (readM_ok hd'.out (hq'.out.trans (by simp)) hf'.out)
    have e5 : IntKind.i64.wrap ((s.size : Int) - (k : Int)) = (s.size : Int) - (k : Int) := IntWalk.i64_in _ (by omega)
    by_cases hlt : s.size - k < n
    · have hX : Hid (∀ W, AnsQ (readQ s.data.toList) (.returned (.tuple #[.agg #[.string ⟨#[]⟩, .string ⟨#[]⟩, .slice none 0 0, .string ⟨#[]⟩], .int .i64 0, .int .i64 91])) W) := Lib.hid fun W => by
        rw [hrd.out, if_pos (by rw [← hsz'.out]; exact hlt)]
        exact ⟨.slice none 0 0, rfl, FsAt.nil W none⟩
      have q1 : (s.size : Int) - (k : Int) < (n : Int) := by omega
      obtain ⟨c0, c1, c2, c3, f0, f1, f2, f3⟩ := res4 O5.out
      go_wp2
      exact bodyPost_ret (v := .tuple #[.agg #[.string ⟨#[]⟩, .string ⟨#[]⟩, .slice none 0 0, .string ⟨#[]⟩], .int .i64 0, .int .i64 91]) (by simp [results, Tryz.results6, go_sem, c0, c1, c2, c3]) rfl ⟨hX.out _, ((((B5.out.setCell (p := ⟨w.heap.size, 0, none⟩) (Nat.le_refl _) _).setCell (p := ⟨w.heap.size, 1, none⟩) (Nat.le_refl _) _).setCell (p := ⟨w.heap.size, 2, none⟩) (Nat.le_refl _) _).setCell (p := ⟨w.heap.size, 3, none⟩) (Nat.le_refl _) _)⟩
    · obtain ⟨E, hE⟩ : ∃ E, k + n = E := ⟨_, rfl⟩
      have hEz : (k : Int) + (n : Int) = (E : Int) := by omega
      have hX : Hid (∀ W, FsAt W (.slice ao nf cp) fs → AnsQ (readQ s.data.toList) (.returned (.tuple #[.agg #[.string m, .string t, .slice ao nf cp, .string (s.extract k E)], .int .i64 (E : Int), .int .i64 0])) W) := Lib.hid fun W hfs => by
        rw [hrd.out, if_neg (by rw [← hsz'.out]; exact hlt), hE]
        refine ⟨.slice ao nf cp, ?_, hfs⟩
        rw [← sv_data (s.extract k E), Lib.extract_data, show E - k = n by omega]
        rw [sv_data, sv_data]
      have q1 : ¬ (s.size : Int) - (k : Int) < (n : Int) := by omega
      have q3 : E ≤ s.size := by omega
      have q5 : (0 : Int) ≤ (k : Int) := by omega
      have q6 : (k : Int) ≤ (E : Int) := by omega
      have q7 : (E : Int) ≤ (s.size : Int) := by omega
      have q8 : k ≤ E := by omega
      clear hE hrd
      obtain ⟨c0, c1, c2, c3, f0, f1, f2, f3⟩ := res4 O5.out
      go_wp2
      exact bodyPost_ret (v := .tuple #[.agg #[.string m, .string t, .slice ao nf cp, .string (s.extract k E)], .int .i64 (E : Int), .int .i64 0]) (by simp [results, Tryz.results6, go_sem, c0, c1, c2, c3]) rfl ⟨hX.out _ (FsOwn.at (fs_set (fs_set (fs_set (fs_set hown5.out hz3 _) hz3 _) hz3 _) hz3 _)), ((((B5.out.setCell (p := ⟨w.heap.size, 0, none⟩) (Nat.le_refl _) _).setCell (p := ⟨w.heap.size, 1, none⟩) (Nat.le_refl _) _).setCell (p := ⟨w.heap.size, 2, none⟩) (Nat.le_refl _) _).setCell (p := ⟨w.heap.size, 3, none⟩) (Nat.le_refl _) _)⟩
end Go.Proofs.YtiaollhiggeolaaGreatDoor.Ht
