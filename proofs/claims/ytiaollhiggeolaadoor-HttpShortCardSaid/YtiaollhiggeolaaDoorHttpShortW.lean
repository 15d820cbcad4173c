/-
  THE WALK OF THE LAW HttpShort.
-/
import Derived.Test.YtiaollhiggeolaaDoorHttpShortP
import Derived.Test.YtiaollhiggeolaaDoorCharDec
import Derived.Test.YtiaollhiggeolaaDoorCharLetters
set_option linter.unusedVariables false
namespace Go.Proofs.YtiaollhiggeolaaDoor.Ht
open Go.Lib Go.RowKit

/-- a text of noughts, as the law makes it -/
theorem zeros_made (w : World) (m : Nat) (hm : m ≤ 281474976710656) : ∃ (w' : World) (Z : ByteArray), (Instr.makeSlice 52 (.int .i64 (m : Int)) (.int .i64 (m : Int))).run Tryd.prog w = .ok (.slice (some ⟨w.heap.size, 0, none⟩) m m) w' ∧ Below w.heap.size w w' ∧ Z.data.toList = List.replicate m 0 ∧
    (convert 52 9 (.slice (some ⟨w.heap.size, 0, none⟩) m m)).run Tryd.prog w' = .ok (.string Z) w' := by
  obtain ⟨s, hs⟩ : ∃ s : ByteArray, s = ⟨(List.replicate m (0 : UInt8)).toArray⟩ := ⟨_, rfl⟩
  have hz : s.data.size = m := by rw [hs]; simp
  have hl : s.data.toList = List.replicate m 0 := by rw [hs]
  obtain ⟨w', h1, h2⟩ := Ch.bytes_made (fun _ => 0) w s (by show s.data.size ≤ _; omega)
  have h3 : Ch.RowF (fun _ => 0) (fun _ => 0) s w.heap.size s.data.size w w' := ⟨h2.1, h2.2.1, fun j hj => by
    have := h2.2.2 j hj
    rw [if_neg (Nat.not_lt_zero j)] at this
    rw [if_pos hj]
    exact this⟩
  have h4 := Ch.rowF_text h3 m
  rw [hz] at h1 h4
  refine ⟨w', ⟨(s.data.toList.map fun _ => 0).toArray⟩, h1, h2.1, ?_, h4⟩
  rw [hl]; simp
set_option maxHeartbeats 4000000 in
set_option maxRecDepth 100000 in
theorem short_walk {G : World → Prop} (hK : Keeps G) (cP : ParseQC G) (cA : PrintAC G) (z1 z2 : Int) (w : World) (hG : G w) :
    Calls Tryd.prog 7 #[.int .i64 z1, .int .i64 z2] w fun e w' => e = .returned (.bool true) ∧ Below w.heap.size w w' := by
  have c0 := first_any hK cP cA w hG
  have cp := Lib.hid (fun (t : ByteArray) (ht : t.size ≤ mostS) (W : World) (hW : Below w.heap.size w W) => cP t W ht (hK w W hG hW))
  obtain ⟨k, hk, hkl⟩ := at_k z1 70000 (by omega) (by omega)
  obtain ⟨m, hm, hml⟩ := at_k z2 70000 (by omega) (by omega)
  have hk' : wrap64 ((IntKind.u64.wrap z1).tmod 70000) = (k : Int) := hk
  have hm' : wrap64 ((IntKind.u64.wrap z2).tmod 70000) = (m : Int) := hm
  clear hk hm
  go_enter Tryd.func7, Tryd.ntmps7
  go_wp2_with fail
  go_at_call 8
  with_reducible refine c0.mono ?_
  rintro e w1 ⟨rfl, hb1⟩
  have hb1' := Lib.hid hb1
  clear c0 hb1
  go_wp2_with fail
  simp only [hk', hm']
  go_at_call 15
  with_reducible refine (Ch.refDecimal_any k (by omega) w1).mono ?_
  rintro e w2 ⟨rfl, hb2⟩
  have hb2' := Lib.hid (below_then hb1'.out hb2)
  obtain ⟨D, eD⟩ : ∃ D : ByteArray, (⟨(decDigits k).toArray⟩ : ByteArray) = D := ⟨_, rfl⟩
  have dD : D.data.toList = decDigits k := by rw [← eD]
  rw [eD]
  have hDl : D.size ≤ 20 := by
    rw [Lib.size_eq, dD, decDigits_length]
    rcases Nat.eq_zero_or_pos k with h | h
    · rw [nDigits_small (by omega)]; omega
    · have := Lib.numDigits_eq k h (by omega); split at this <;> omega
  obtain ⟨w3, Z, hmk, hb3, hZ, hcv⟩ := zeros_made w2 m (by omega)
  have hb3' := Lib.hid (below_then hb2'.out hb3)
  have hZl : Z.size = m := by rw [Lib.size_eq, hZ, List.length_replicate]
  have hZ' := Lib.hid hZ
  have dD' := Lib.hid dD
  have hZl' := Lib.hid hZl
  clear hb2 hb1' eD hb3 hZ dD hZl
  have hZb : Z.size ≤ 70000 := by rw [hZl'.out]; omega
  go_wp2_with fail
  go_at_call 12
  obtain ⟨S, hS⟩ : ∃ S : ByteArray, (⟨#[80, 85, 84, 32, 47, 97, 47, 98, 32, 72, 84, 84, 80, 47, 49, 46, 49, 13, 10, 67, 111, 110, 116, 101, 110, 116, 45, 76, 101, 110, 103, 116, 104, 58, 32]⟩ : ByteArray) ++ D ++ ⟨#[13, 10, 13, 10]⟩ = S := ⟨_, rfl⟩
  have dS : S.data.toList = headR (rowQ putM putT) [] k := by
    rw [← hS, ByteArray.data_append, ByteArray.data_append, Array.toList_append, Array.toList_append, dD'.out, ← short_text]
  have hr := short_read k hkl (List.replicate m 0)
  have zS : S.size = (headR (rowQ putM putT) [] k).length := by rw [Lib.size_eq, dS]
  have dT : (S ++ Z).data.toList = headR (rowQ putM putT) [] k ++ List.replicate m 0 := by rw [ByteArray.data_append, Array.toList_append, dS, hZ'.out]
  have g := cp.out (S ++ Z) (by rw [ByteArray.size_append]; unfold mostS; omega) w3 hb3'.out
  rw [dT, hr.2, List.length_replicate] at g
  have hSl := hr.1
  rw [← zS] at g hSl
  rw [hS]
  clear hr dT zS dS hS hmk hcv
  by_cases c1 : 65536 < k
  · rw [if_pos c1] at g
    with_reducible refine g.mono ?_
    rintro e w4 ⟨⟨v, rfl, hv⟩, hb4⟩
    obtain ⟨A4, k4, rfl⟩ := hv.form
    have hb4' := Lib.hid (below_then (below_then hb3'.out hb4) ((Below.refl w4.heap.size w4).alloc (Nat.le_refl _) (.cells #[.string ⟨#[]⟩, .string ⟨#[]⟩, .slice A4 0 k4, .string ⟨#[]⟩] 24)))
    clear g hv hb4
    go_wp2
    go_ret
    exact ⟨rfl, hb4'.out⟩
  · rw [if_neg c1] at g
    by_cases c2 : m < k
    · rw [if_pos c2] at g
      with_reducible refine g.mono ?_
      rintro e w4 ⟨⟨v, rfl, hv⟩, hb4⟩
      obtain ⟨A4, k4, rfl⟩ := hv.form
      have hb4' := Lib.hid (below_then (below_then hb3'.out hb4) ((Below.refl w4.heap.size w4).alloc (Nat.le_refl _) (.cells #[.string ⟨#[]⟩, .string ⟨#[]⟩, .slice A4 0 k4, .string ⟨#[]⟩] 24)))
      clear g hv hb4
      go_wp2
      go_ret
      exact ⟨rfl, hb4'.out⟩
    · rw [if_neg c2] at g
      with_reducible refine g.mono ?_
      rintro e w4 ⟨⟨v, rfl, hv⟩, hb4⟩
      obtain ⟨A4, k4, rfl⟩ := hv.form
      obtain ⟨P1, e1, _⟩ := sv_some (putM, putT).1
      obtain ⟨P2, e2, _⟩ := sv_some (putM, putT).2
      obtain ⟨Bo, e3, hBo⟩ := sv_some (List.take k (List.replicate m 0))
      have hBl : Bo.size = k := by rw [Lib.size_eq, hBo, List.length_take, List.length_replicate]; omega
      rw [e1, e2, e3, List.length_nil]
      have hb4' := Lib.hid (below_then (below_then hb3'.out hb4) ((Below.refl w4.heap.size w4).alloc (Nat.le_refl _) (.cells #[.string P1, .string P2, .slice A4 0 k4, .string Bo] 24)))
      have OX : (w4.alloc (.cells #[.string P1, .string P2, .slice A4 0 k4, .string Bo] 24)).heap[w4.heap.size]? = some (.cells #[.string P1, .string P2, .slice A4 0 k4, .string Bo] 24 (0, 0)) := heap_alloc_new w4 _
      have q3 : (w4.alloc (.cells #[.string P1, .string P2, .slice A4 0 k4, .string Bo] 24)).cell? ⟨w4.heap.size, 3, none⟩ = some (.string Bo) := (Lib.cell_of_heap OX 3).trans rfl
      clear g hv hb4 e1 e2 e3 hBo OX
      go_wp2
      go_ret
      exact ⟨rfl, hb4'.out⟩
end Go.Proofs.YtiaollhiggeolaaDoor.Ht
