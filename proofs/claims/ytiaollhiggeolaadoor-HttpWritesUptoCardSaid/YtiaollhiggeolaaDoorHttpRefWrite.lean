/-
  THE WALK OF THE REFERENCE OF LAYER http: Write.
-/
import Derived.Test.YtiaollhiggeolaaDoorHttpRefCut
import Derived.Test.YtiaollhiggeolaaDoorHttpCodeL
set_option linter.unusedVariables false
namespace Go.Proofs.YtiaollhiggeolaaDoor.Ht
open Go.Lib Go.RowKit

theorem fdB_dec (f : Fd) : fdB f = (nmB f.1 && (rng 32 126 true f.2 && (decide (trim f.2 = f.2) && (!(Ch.low f.1 == clS) && !(Ch.low f.1 == teS))))) := by
  rw [fdB_is]
  unfold isF
  cases nmB f.1 <;> cases rng 32 126 true f.2 <;> cases decide (trim f.2 = f.2) <;> cases (Ch.low f.1 == clS) <;> cases (Ch.low f.1 == teS) <;> rfl
/-- what the reference has written so far: all of it, or too much of it -/
def Wrote (row : Row) (fs : List Fd) (k : Nat) (s : Row) : Prop := s.length ≤ (soFar row (fs.take k)).length ∧ (s = soFar row (fs.take k) ∨ 8192 < s.length)
theorem wrote_start (row : Row) (fs : List Fd) {s : Row} (h : s = row ++ [13, 10]) : Wrote row fs 0 s := by
  refine ⟨?_, .inl ?_⟩
  · rw [h, List.take_zero, soFar_nil]; exact Nat.le_refl _
  · rw [h, List.take_zero, soFar_nil]
theorem wrote_more {row : Row} {fs : List Fd} {k : Nat} {s : Row} {F : Fd} (h : Wrote row fs k s) (hf : fs[k]? = some F) (hs : s.length ≤ 8192) : Wrote row fs (k + 1) (s ++ (fdR F ++ [13, 10])) := by
  rcases h.2 with h2 | h2
  · subst h2
    have e : soFar row (fs.take k) ++ (fdR F ++ [13, 10]) = soFar row (fs.take (k + 1)) := by rw [take_nx hf, soFar_snoc]
    exact ⟨by rw [e]; exact Nat.le_refl _, .inl e⟩
  · omega
theorem wrote_stay {row : Row} {fs : List Fd} {k : Nat} {s : Row} {F : Fd} (h : Wrote row fs k s) (hf : fs[k]? = some F) (hs : ¬ s.length ≤ 8192) : Wrote row fs (k + 1) s := by
  refine ⟨?_, .inr (by omega)⟩
  have := h.1
  rw [take_nx hf, soFar_snoc, List.length_append]
  omega
theorem wrote_end {row : Row} {fs : List Fd} {k : Nat} {s body : Row} (h : Wrote row fs k s) (hk : fs.length ≤ k) (hp : prB fs = true) :
    write row fs body = if 8192 < (s ++ (clR body.length ++ [13, 10] ++ [13, 10])).length ∨ 65536 < body.length then ([], 11) else (s ++ (clR body.length ++ [13, 10] ++ [13, 10]) ++ body, 0) := by
  rw [write_ok hp, head_is]
  unfold Wrote at h
  rw [List.take_of_length_le hk] at h
  rcases h.2 with h2 | h2
  · rw [h2, List.append_assoc]
  · have := h.1
    rw [if_pos, if_pos]
    · left; rw [List.length_append]; omega
    · left; simp only [List.length_append]; omega
theorem bytes_add (a b : ByteArray) : (a ++ b).data.toList = a.data.toList ++ b.data.toList := by rw [ByteArray.data_append, Array.toList_append]
set_option maxHeartbeats 16000000 in
set_option maxRecDepth 100000 in
theorem refWrite_any (row body : ByteArray) (v0 : Value) (fs : List Fd) (w : World) (h0 : FsAt w v0 fs) (hsz : row.size + body.size + szF fs ≤ 137438953472) (hsf : szF fs ≤ mostF) :
    Calls Tryd.prog 11 #[.string row, v0, .string body] w fun e w' => e = .returned (.tuple #[sv (write row.data.toList fs body.data.toList).1, .int .i64 (write row.data.toList fs body.data.toList).2]) ∧ Below w.heap.size w w' := by
  obtain ⟨A, b, off, c, rfl, hc1, hc2, hA, hcell⟩ := h0
  obtain ⟨N, hN⟩ : ∃ N, fs.length = N := ⟨_, rfl⟩
  rw [hN] at hc1 hA ⊢
  unfold maxLen at hc2
  obtain ⟨y0, hy0⟩ : ∃ y, row ++ (⟨#[13, 10]⟩ : ByteArray) = y := ⟨_, rfl⟩
  have hyd := Lib.hid (show y0.data.toList = row.data.toList ++ [13, 10] by rw [cat_data hy0])
  have m0 : ¬ 9223372036854775807 < row.size + (⟨#[13, 10]⟩ : ByteArray).size := by rw [show (⟨#[13, 10]⟩ : ByteArray).size = 2 from rfl]; omega
  have m0' : ¬ 9223372036854775807 < row.size + 2 := by omega
  have hrz' := Lib.hid (show row.size = row.data.toList.length from Lib.size_eq row)
  have hbz' := Lib.hid (show body.size = body.data.toList.length from Lib.size_eq body)
  obtain ⟨B0, hB0⟩ : ∃ B0, decide (31 < N) = B0 := ⟨_, rfl⟩
  have hB0' := Lib.hid hB0
  have hg31 : (decide (31 < N) = B0) ∧ (decide ((31 : Int) < (N : Int)) = B0) := ⟨hB0, by rw [← hB0, Bool.eq_iff_iff, decide_eq_true_iff, decide_eq_true_iff]; omega⟩
  obtain ⟨g1, g2⟩ := hg31
  have hN' := Lib.hid hN
  have hA' := Lib.hid hA
  have hcell' := Lib.hid hcell
  unfold mostF at hsf
  clear hN hA hcell hB0
  go_enter Tryd.func11, Tryd.ntmps11
  go_wp2
  go_loopw [8, 9, 20] (fun s8 s9 s20 wr => ∃ (k : Nat) (S : ByteArray) (bad : Bool), s20 = .int .i64 (k : Int) ∧ k ≤ N ∧ s8 = .string S ∧ s9 = .bool bad ∧ bad = (B0 || !((fs.take k).all fdB)) ∧ Wrote row.data.toList fs k S.data.toList ∧ Below w.heap.size w wr) (fun s8 s9 s20 wr => N - (RowKit.intOf s20).toNat)
  case atStart => exact ⟨0, _, B0, rfl, Nat.zero_le _, rfl, rfl, by simp, wrote_start _ _ hyd.out, Below.refl _ _⟩
  case round =>
    obtain ⟨k, S, bad, rfl, hk, rfl, rfl, hbad, hwr, hbr⟩ := hrel
    have hwr' := Lib.hid hwr
    have hbad' := Lib.hid hbad
    have hsl := soFar_len row.data.toList (fs.take k)
    have hst := szF_take fs k
    have hSz : S.size ≤ 2199023255552 := by
      rw [Lib.size_eq]
      have := hwr.1
      have := hrz'.out
      omega
    clear hwr hbad hsl hst
    by_cases hlt : k < N
    · have hf : fs[k]? = some (fs[k]'(by have := hN'.out; omega)) := List.getElem?_eq_getElem _
      obtain ⟨F, hF⟩ : ∃ F, fs[k]'(by have := hN'.out; omega) = F := ⟨_, rfl⟩
      rw [hF] at hf
      obtain ⟨rfl, hg⟩ := hA'.out (by omega)
      obtain ⟨a1, a2, d1, d2, c0, c1⟩ := FsAt.field hcell'.out hg hbr hf
      have hz := szF_at hf
      have hz1 : a1.size + a2.size + 1 ≤ szF fs := by rw [Lib.size_eq, Lib.size_eq, d1, d2]; exact hz
      have hX2 : (wr.alloc (.cells #[.string a1, .string a2] 47)).heap[wr.heap.size]? = some (.cells #[.string a1, .string a2] 47 (0, 0)) := heap_alloc_new wr _
      have hB2 : Below w.heap.size w (wr.alloc (.cells #[.string a1, .string a2] 47)) := hbr.alloc hbr.size _
      obtain ⟨x0, x1, _, _⟩ := res2 hX2
      have cL := Ch.refLower_any a1 (wr.alloc (.cells #[.string a1, .string a2] 47)) (by omega)
      obtain ⟨lw, hlw⟩ : ∃ lw : ByteArray, (⟨(Ch.low a1.data.toList).toArray⟩ : ByteArray) = lw := ⟨_, rfl⟩
      have hlwd : lw.toList = Ch.low a1.data.toList := by rw [← hlw, Lib.toList_data]
      rw [hlw] at cL
      have cN := fun W => refName_any a1 W (by omega)
      have cV := fun W => refRange_any a2 32 126 true W (by decide) (by decide) (by omega)
      have cT := fun W => refTrim_any a2 W (by omega)
      obtain ⟨tv, htv, htd⟩ := sv_some (trim a2.data.toList)
      simp only [htv] at cT
      rw [show ((32 : Nat) : Int) = 32 from rfl, show ((126 : Nat) : Int) = 126 from rfl] at cV
      have hq := fdB_dec F
      rw [← d1, ← d2] at hq
      obtain ⟨I, hI⟩ : ∃ R, nmB a1.data.toList = R := ⟨_, rfl⟩
      obtain ⟨V, hV⟩ : ∃ R, rng 32 126 true a2.data.toList = R := ⟨_, rfl⟩
      obtain ⟨T, hT⟩ : ∃ R, decide (trim a2.data.toList = a2.data.toList) = R := ⟨_, rfl⟩
      obtain ⟨L, hL⟩ : ∃ R, (Ch.low a1.data.toList == clS) = R := ⟨_, rfl⟩
      obtain ⟨C, hC⟩ : ∃ R, (Ch.low a1.data.toList == teS) = R := ⟨_, rfl⟩
      rw [hI, hV, hT, hL, hC] at hq
      simp only [hI] at cN
      simp only [hV] at cV
      have t1 : (tv.toList == a2.toList) = T := by rw [eq_lists, htd, hT]
      have t2 : (tv.toList != a2.toList) = !T := by rw [bne, t1]
      have t3 : decide (tv.toList = a2.toList) = T := by rw [← t1, beq_dec]
      have l1 : (lw.toList == [99, 111, 110, 116, 101, 110, 116, 45, 108, 101, 110, 103, 116, 104]) = L := by rw [hlwd]; exact hL
      have l2 : (lw.toList == [116, 114, 97, 110, 115, 102, 101, 114, 45, 101, 110, 99, 111, 100, 105, 110, 103]) = C := by rw [hlwd]; exact hC
      have hnx : Hid (fdB F = (I && (V && (T && (!L && !C)))) ∧ (fs.take (k + 1)).all fdB = ((fs.take k).all fdB && fdB F)) := Lib.hid ⟨hq, by rw [take_nx hf, List.all_append]; simp⟩
      obtain ⟨z1, p1⟩ : ∃ y, a1 ++ (⟨#[58, 32]⟩ : ByteArray) = y := ⟨_, rfl⟩
      obtain ⟨z2, p2⟩ : ∃ y, z1 ++ a2 = y := ⟨_, rfl⟩
      obtain ⟨z3, p3⟩ : ∃ y, z2 ++ (⟨#[13, 10]⟩ : ByteArray) = y := ⟨_, rfl⟩
      obtain ⟨z4, p4⟩ : ∃ y, S ++ z3 = y := ⟨_, rfl⟩
      have s1 : z1.size = a1.size + 2 := by rw [cat_size p1]; rfl
      have s2 : z2.size = a1.size + 2 + a2.size := by rw [cat_size p2, s1]
      have s3 : z3.size = a1.size + 2 + a2.size + 2 := by rw [cat_size p3, s2]; rfl
      have hz4 : Hid (z4.data.toList = S.data.toList ++ (fdR F ++ [13, 10])) := Lib.hid (by
        rw [cat_data p4, cat_data p3, cat_data p2, cat_data p1, d1, d2]
        unfold fdR
        simp)
      have n1 : ¬ 9223372036854775807 < a1.size + (⟨#[58, 32]⟩ : ByteArray).size := by rw [show (⟨#[58, 32]⟩ : ByteArray).size = 2 from rfl]; omega
      have n1' : ¬ 9223372036854775807 < a1.size + 2 := by omega
      have n2 : ¬ 9223372036854775807 < z1.size + a2.size := by omega
      have n3 : ¬ 9223372036854775807 < z2.size + (⟨#[13, 10]⟩ : ByteArray).size := by rw [show (⟨#[13, 10]⟩ : ByteArray).size = 2 from rfl]; omega
      have n3' : ¬ 9223372036854775807 < z2.size + 2 := by omega
      have n4 : ¬ 9223372036854775807 < S.size + z3.size := by omega
      have hgo : Hid (∀ bad2, bad2 = (bad || !(I && (V && (T && (!L && !C))))) → bad2 = (B0 || !((fs.take (k + 1)).all fdB)) ∧ (S.data.toList.length ≤ 8192 → Wrote row.data.toList fs (k + 1) z4.data.toList) ∧ (¬ S.data.toList.length ≤ 8192 → Wrote row.data.toList fs (k + 1) S.data.toList)) := Lib.hid (fun bad2 h => by
        refine ⟨?_, fun hs => by rw [hz4.out]; exact wrote_more hwr'.out hf hs, fun hs => wrote_stay hwr'.out hf hs⟩
        rw [h, hnx.out.2, hnx.out.1, hbad'.out]
        cases B0 <;> cases (fs.take k).all fdB <;> simp)
      have hSl : S.size = S.data.toList.length := Lib.size_eq S
      have hSl' := Lib.hid hSl
      have hB2' := Lib.hid hB2
      have hX2' := Lib.hid hX2
      clear hf hF hz d1 d2 hI hV hT hL hC hq hX2 hB2 hlw hlwd htv htd s1 s2 s3 hnx hbad' hwr' hSl hz4
      go_wp2_with fail
      go_at_call 20
      with_reducible refine cL.mono ?_
      rintro e w3 ⟨rfl, hb3⟩
      have hB3 := Lib.hid (below_then hB2'.out hb3)
      have hX3 := (hb3.block _ (Array.getElem?_eq_some_iff.1 hX2'.out).1).trans hX2'.out
      clear x0 x1 c0 c1 cL hb3 hX2' hB2' hbr
      obtain ⟨x0, x1, _, _⟩ := res2 hX3
      clear hX3
      go_wp2_with fail
      cases bad with
      | true =>
        go_quiet ((first | (go_at_call 25; exact Calls.quiet_of_same (cN _)) | (go_at_call 24; exact Calls.quiet_of_same (cV _)) | (go_at_call 26; exact Calls.quiet_of_same (cT _))))
        by_cases hs : S.size ≤ 8192
        · have hs1 : (S.size : Int) ≤ 8192 := by omega
          have hg := hgo.out true (by first | rfl | simp)
          have hg1 := Lib.hid hg.1
          have hg2 := Lib.hid (hg.2.1 (by rw [← hSl'.out]; exact hs))
          clear hg
          go_wp2
          go_roundw
          case rel => exact ⟨k + 1, _, _, by go_num, by omega, rfl, rfl, hg1.out, hg2.out, below_drewN _ hB3.out⟩
          case measure => simp [RowKit.intOf]; omega
        · have hs1 : ¬ (S.size : Int) ≤ 8192 := by omega
          have hg := hgo.out true (by first | rfl | simp)
          have hg1 := Lib.hid hg.1
          have hg2 := Lib.hid (hg.2.2 (by rw [← hSl'.out]; exact hs))
          clear hg
          go_wp2
          go_roundw
          case rel => exact ⟨k + 1, _, _, by go_num, by omega, rfl, rfl, hg1.out, hg2.out, below_drewN _ hB3.out⟩
          case measure => simp [RowKit.intOf]; omega
      | false =>
      cases I with
      | false =>
        go_quiet ((first | (go_at_call 25; exact Calls.quiet_of_same (cN _)) | (go_at_call 24; exact Calls.quiet_of_same (cV _)) | (go_at_call 26; exact Calls.quiet_of_same (cT _))))
        by_cases hs : S.size ≤ 8192
        · have hs1 : (S.size : Int) ≤ 8192 := by omega
          have hg := hgo.out true (by first | rfl | simp)
          have hg1 := Lib.hid hg.1
          have hg2 := Lib.hid (hg.2.1 (by rw [← hSl'.out]; exact hs))
          clear hg
          go_wp2
          go_roundw
          case rel => exact ⟨k + 1, _, _, by go_num, by omega, rfl, rfl, hg1.out, hg2.out, below_drewN _ hB3.out⟩
          case measure => simp [RowKit.intOf]; omega
        · have hs1 : ¬ (S.size : Int) ≤ 8192 := by omega
          have hg := hgo.out true (by first | rfl | simp)
          have hg1 := Lib.hid hg.1
          have hg2 := Lib.hid (hg.2.2 (by rw [← hSl'.out]; exact hs))
          clear hg
          go_wp2
          go_roundw
          case rel => exact ⟨k + 1, _, _, by go_num, by omega, rfl, rfl, hg1.out, hg2.out, below_drewN _ hB3.out⟩
          case measure => simp [RowKit.intOf]; omega
      | true =>
      cases V with
      | false =>
        go_quiet ((first | (go_at_call 25; exact Calls.quiet_of_same (cN _)) | (go_at_call 24; exact Calls.quiet_of_same (cV _)) | (go_at_call 26; exact Calls.quiet_of_same (cT _))))
        by_cases hs : S.size ≤ 8192
        · have hs1 : (S.size : Int) ≤ 8192 := by omega
          have hg := hgo.out true (by first | rfl | simp)
          have hg1 := Lib.hid hg.1
          have hg2 := Lib.hid (hg.2.1 (by rw [← hSl'.out]; exact hs))
          clear hg
          go_wp2
          go_roundw
          case rel => exact ⟨k + 1, _, _, by go_num, by omega, rfl, rfl, hg1.out, hg2.out, below_drewN _ hB3.out⟩
          case measure => simp [RowKit.intOf]; omega
        · have hs1 : ¬ (S.size : Int) ≤ 8192 := by omega
          have hg := hgo.out true (by first | rfl | simp)
          have hg1 := Lib.hid hg.1
          have hg2 := Lib.hid (hg.2.2 (by rw [← hSl'.out]; exact hs))
          clear hg
          go_wp2
          go_roundw
          case rel => exact ⟨k + 1, _, _, by go_num, by omega, rfl, rfl, hg1.out, hg2.out, below_drewN _ hB3.out⟩
          case measure => simp [RowKit.intOf]; omega
      | true =>
      cases T with
      | false =>
        go_quiet ((first | (go_at_call 25; exact Calls.quiet_of_same (cN _)) | (go_at_call 24; exact Calls.quiet_of_same (cV _)) | (go_at_call 26; exact Calls.quiet_of_same (cT _))))
        by_cases hs : S.size ≤ 8192
        · have hs1 : (S.size : Int) ≤ 8192 := by omega
          have hg := hgo.out true (by first | rfl | simp)
          have hg1 := Lib.hid hg.1
          have hg2 := Lib.hid (hg.2.1 (by rw [← hSl'.out]; exact hs))
          clear hg
          go_wp2
          go_roundw
          case rel => exact ⟨k + 1, _, _, by go_num, by omega, rfl, rfl, hg1.out, hg2.out, below_drewN _ hB3.out⟩
          case measure => simp [RowKit.intOf]; omega
        · have hs1 : ¬ (S.size : Int) ≤ 8192 := by omega
          have hg := hgo.out true (by first | rfl | simp)
          have hg1 := Lib.hid hg.1
          have hg2 := Lib.hid (hg.2.2 (by rw [← hSl'.out]; exact hs))
          clear hg
          go_wp2
          go_roundw
          case rel => exact ⟨k + 1, _, _, by go_num, by omega, rfl, rfl, hg1.out, hg2.out, below_drewN _ hB3.out⟩
          case measure => simp [RowKit.intOf]; omega
      | true =>
      cases L with
      | true =>
        go_quiet ((first | (go_at_call 25; exact Calls.quiet_of_same (cN _)) | (go_at_call 24; exact Calls.quiet_of_same (cV _)) | (go_at_call 26; exact Calls.quiet_of_same (cT _))))
        by_cases hs : S.size ≤ 8192
        · have hs1 : (S.size : Int) ≤ 8192 := by omega
          have hg := hgo.out true (by first | rfl | simp)
          have hg1 := Lib.hid hg.1
          have hg2 := Lib.hid (hg.2.1 (by rw [← hSl'.out]; exact hs))
          clear hg
          go_wp2
          go_roundw
          case rel => exact ⟨k + 1, _, _, by go_num, by omega, rfl, rfl, hg1.out, hg2.out, below_drewN _ hB3.out⟩
          case measure => simp [RowKit.intOf]; omega
        · have hs1 : ¬ (S.size : Int) ≤ 8192 := by omega
          have hg := hgo.out true (by first | rfl | simp)
          have hg1 := Lib.hid hg.1
          have hg2 := Lib.hid (hg.2.2 (by rw [← hSl'.out]; exact hs))
          clear hg
          go_wp2
          go_roundw
          case rel => exact ⟨k + 1, _, _, by go_num, by omega, rfl, rfl, hg1.out, hg2.out, below_drewN _ hB3.out⟩
          case measure => simp [RowKit.intOf]; omega
      | false =>
      cases C with
      | true =>
        go_quiet ((first | (go_at_call 25; exact Calls.quiet_of_same (cN _)) | (go_at_call 24; exact Calls.quiet_of_same (cV _)) | (go_at_call 26; exact Calls.quiet_of_same (cT _))))
        by_cases hs : S.size ≤ 8192
        · have hs1 : (S.size : Int) ≤ 8192 := by omega
          have hg := hgo.out true (by first | rfl | simp)
          have hg1 := Lib.hid hg.1
          have hg2 := Lib.hid (hg.2.1 (by rw [← hSl'.out]; exact hs))
          clear hg
          go_wp2
          go_roundw
          case rel => exact ⟨k + 1, _, _, by go_num, by omega, rfl, rfl, hg1.out, hg2.out, below_drewN _ hB3.out⟩
          case measure => simp [RowKit.intOf]; omega
        · have hs1 : ¬ (S.size : Int) ≤ 8192 := by omega
          have hg := hgo.out true (by first | rfl | simp)
          have hg1 := Lib.hid hg.1
          have hg2 := Lib.hid (hg.2.2 (by rw [← hSl'.out]; exact hs))
          clear hg
          go_wp2
          go_roundw
          case rel => exact ⟨k + 1, _, _, by go_num, by omega, rfl, rfl, hg1.out, hg2.out, below_drewN _ hB3.out⟩
          case measure => simp [RowKit.intOf]; omega
      | false =>
      go_quiet ((first | (go_at_call 25; exact Calls.quiet_of_same (cN _)) | (go_at_call 24; exact Calls.quiet_of_same (cV _)) | (go_at_call 26; exact Calls.quiet_of_same (cT _))))
      by_cases hs : S.size ≤ 8192
      · have hs1 : (S.size : Int) ≤ 8192 := by omega
        have hg := hgo.out false (by first | rfl | simp)
        have hg1 := Lib.hid hg.1
        have hg2 := Lib.hid (hg.2.1 (by rw [← hSl'.out]; exact hs))
        clear hg
        go_wp2
        go_roundw
        case rel => exact ⟨k + 1, _, _, by go_num, by omega, rfl, rfl, hg1.out, hg2.out, below_drewN _ hB3.out⟩
        case measure => simp [RowKit.intOf]; omega
      · have hs1 : ¬ (S.size : Int) ≤ 8192 := by omega
        have hg := hgo.out false (by first | rfl | simp)
        have hg1 := Lib.hid hg.1
        have hg2 := Lib.hid (hg.2.2 (by rw [← hSl'.out]; exact hs))
        clear hg
        go_wp2
        go_roundw
        case rel => exact ⟨k + 1, _, _, by go_num, by omega, rfl, rfl, hg1.out, hg2.out, below_drewN _ hB3.out⟩
        case measure => simp [RowKit.intOf]; omega
    · have htk : fs.take k = fs := List.take_of_length_le (by have := hN'.out; omega)
      have hbe := hbad'.out
      rw [htk] at hbe
      have hpr : prB fs = !bad := by
        unfold prB
        rw [hbe, hN'.out, ← hB0'.out]
        cases fs.all fdB <;> by_cases h : 31 < N <;> simp [h]
      cases bad with
      | true =>
        have hfin := Lib.hid (show Ending.returned (.tuple #[.string ⟨#[]⟩, .int .i64 80]) = .returned (.tuple #[sv (write row.data.toList fs body.data.toList).1, .int .i64 (write row.data.toList fs body.data.toList).2]) by rw [write_bad hpr]; rfl)
        clear hbe hpr htk
        go_wp2
        go_ret2
        exact ⟨hfin.out, hbr⟩
      | false =>
      have hwe := wrote_end (body := body.data.toList) hwr'.out (by have := hN'.out; omega) hpr
      have cD := Ch.refDecimal_any body.size (by omega) wr
      obtain ⟨D, hD⟩ : ∃ D : ByteArray, (⟨(decDigits body.size).toArray⟩ : ByteArray) = D := ⟨_, rfl⟩
      have hDd : D.data.toList = decDigits body.size := by rw [← hD]
      rw [hD] at cD
      have hDz : D.size ≤ 20 := by
        rw [Lib.size_eq, hDd, decDigits_length]
        rcases Nat.eq_zero_or_pos body.size with h | h
        · rw [nDigits_small (by omega)]; omega
        · have := Lib.numDigits_eq body.size h (by omega); split at this <;> omega
      obtain ⟨z1, p1⟩ : ∃ y, (⟨#[67, 111, 110, 116, 101, 110, 116, 45, 76, 101, 110, 103, 116, 104, 58, 32]⟩ : ByteArray) ++ D = y := ⟨_, rfl⟩
      obtain ⟨z2, p2⟩ : ∃ y, z1 ++ (⟨#[13, 10, 13, 10]⟩ : ByteArray) = y := ⟨_, rfl⟩
      obtain ⟨z3, p3⟩ : ∃ y, S ++ z2 = y := ⟨_, rfl⟩
      obtain ⟨z4, p4⟩ : ∃ y, z3 ++ body = y := ⟨_, rfl⟩
      have s1 : z1.size = 16 + D.size := by rw [cat_size p1]; rfl
      have s2 : z2.size = 16 + D.size + 4 := by rw [cat_size p2, s1]; rfl
      have s3 : z3.size = S.size + (16 + D.size + 4) := by rw [cat_size p3, s2]
      have hz3 : z3.data.toList = S.data.toList ++ (clR body.data.toList.length ++ [13, 10] ++ [13, 10]) := by
        rw [cat_data p3, cat_data p2, cat_data p1, hDd, hbz'.out]
        unfold clR clN
        simp
      have hz4 : z4.data.toList = S.data.toList ++ (clR body.data.toList.length ++ [13, 10] ++ [13, 10]) ++ body.data.toList := by rw [cat_data p4, hz3]
      rw [← hz4, ← hz3, ← Lib.size_eq z3, ← hbz'.out] at hwe
      have n1 : ¬ 9223372036854775807 < (⟨#[67, 111, 110, 116, 101, 110, 116, 45, 76, 101, 110, 103, 116, 104, 58, 32]⟩ : ByteArray).size + D.size := by rw [show (⟨#[67, 111, 110, 116, 101, 110, 116, 45, 76, 101, 110, 103, 116, 104, 58, 32]⟩ : ByteArray).size = 16 from rfl]; omega
      have n1' : ¬ 9223372036854775807 < 16 + D.size := by omega
      have n2 : ¬ 9223372036854775807 < z1.size + (⟨#[13, 10, 13, 10]⟩ : ByteArray).size := by rw [show (⟨#[13, 10, 13, 10]⟩ : ByteArray).size = 4 from rfl]; omega
      have n2' : ¬ 9223372036854775807 < z1.size + 4 := by omega
      have n3 : ¬ 9223372036854775807 < S.size + z2.size := by omega
      have n4 : ¬ 9223372036854775807 < z3.size + body.size := by omega
      have hw : IntKind.u64.wrap (body.size : Int) = (body.size : Int) := by
        unfold IntKind.wrap
        simp only [IntKind.bits, IntKind.signed]
        simp
        omega
      have hbr' := Lib.hid hbr
      clear hbe hpr htk hD hDd hDz s1 s2 s3 hz3 hz4
      by_cases hl : 8192 < z3.size
      · have hfin := Lib.hid (show Ending.returned (.tuple #[.string ⟨#[]⟩, .int .i64 11]) = .returned (.tuple #[sv (write row.data.toList fs body.data.toList).1, .int .i64 (write row.data.toList fs body.data.toList).2]) by rw [hwe, if_pos (.inl hl)]; rfl)
        have hl1 : (8192 : Int) < (z3.size : Int) := by omega
        clear hwe hbr
        go_wp2_with fail
        go_at_call 15
        with_reducible refine cD.mono ?_
        rintro e w3 ⟨rfl, hb3⟩
        have hb3' := Lib.hid (below_then hbr'.out hb3)
        clear hb3
        go_wp2
        go_ret2
        exact ⟨hfin.out, hb3'.out⟩
      by_cases hb : 65536 < body.size
      · have hfin := Lib.hid (show Ending.returned (.tuple #[.string ⟨#[]⟩, .int .i64 11]) = .returned (.tuple #[sv (write row.data.toList fs body.data.toList).1, .int .i64 (write row.data.toList fs body.data.toList).2]) by rw [hwe, if_pos (.inr hb)]; rfl)
        have hl1 : ¬ (8192 : Int) < (z3.size : Int) := by omega
        have hl2 : (65536 : Int) < (body.size : Int) := by omega
        clear hwe hbr
        go_wp2_with fail
        go_at_call 15
        with_reducible refine cD.mono ?_
        rintro e w3 ⟨rfl, hb3⟩
        have hb3' := Lib.hid (below_then hbr'.out hb3)
        clear hb3
        go_wp2
        go_ret2
        exact ⟨hfin.out, hb3'.out⟩
      · have hfin := Lib.hid (show Ending.returned (.tuple #[.string z4, .int .i64 0]) = .returned (.tuple #[sv (write row.data.toList fs body.data.toList).1, .int .i64 (write row.data.toList fs body.data.toList).2]) by rw [hwe, if_neg (by omega)]; simp only; rw [sv_data])
        have hl1 : ¬ (8192 : Int) < (z3.size : Int) := by omega
        have hl2 : ¬ (65536 : Int) < (body.size : Int) := by omega
        clear hwe hbr
        go_wp2_with fail
        go_at_call 15
        with_reducible refine cD.mono ?_
        rintro e w3 ⟨rfl, hb3⟩
        have hb3' := Lib.hid (below_then hbr'.out hb3)
        clear hb3
        go_wp2
        go_ret2
        exact ⟨hfin.out, hb3'.out⟩
end Go.Proofs.YtiaollhiggeolaaDoor.Ht
