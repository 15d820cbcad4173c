/-
  THE WALK OF THE LAW HttpPieces.
-/
import Derived.Test.YtiaollhiggeolaaDoorHttpPiecesP
set_option linter.unusedVariables false
namespace Go.Proofs.YtiaollhiggeolaaDoor.Ht
open Go.Lib Go.RowKit

set_option maxHeartbeats 4000000 in
set_option maxRecDepth 100000 in
theorem pieces_walk {G : World → Prop} (hK : Keeps G) (cP : ParseQC G) (cA : PrintAC G) (cR : PrintQC G) (m1 t1 b1 m2 t2 b2 : ByteArray) (f1 f2 : Value) (F1 F2 : List Fd) (z : Int) (w : World) (h1 : FsAt w f1 F1) (h2 : FsAt w f2 F2)
    (s1 : m1.size + t1.size + b1.size + szF F1 ≤ mostF) (s2 : m2.size + t2.size + b2.size + szF F2 ≤ mostF) (hG : G w) :
    Calls Tryd.prog 5 #[.agg #[.string m1, .string t1, f1, .string b1], .agg #[.string m2, .string t2, f2, .string b2], .int .i64 z] w fun e w' => e = .returned (.bool true) ∧ Below w.heap.size w w' := by
  obtain ⟨A1, k1, rfl⟩ := h1.form
  obtain ⟨A2, k2, rfl⟩ := h2.form
  have OA : (w.alloc (.cells #[.string m1, .string t1, .slice A1 F1.length k1, .string b1] 24)).heap[w.heap.size]? = some (.cells #[.string m1, .string t1, .slice A1 F1.length k1, .string b1] 24 (0, 0)) := heap_alloc_new w _
  have sA : (w.alloc (.cells #[.string m1, .string t1, .slice A1 F1.length k1, .string b1] 24)).heap.size = w.heap.size + 1 := Array.size_push _
  have hbA : Below w.heap.size w (w.alloc (.cells #[.string m1, .string t1, .slice A1 F1.length k1, .string b1] 24)) := (Below.refl _ _).alloc (Nat.le_refl _) _
  generalize hwa : w.alloc (.cells #[.string m1, .string t1, .slice A1 F1.length k1, .string b1] 24) = wa at OA sA hbA
  have OB : (wa.alloc (.cells #[.string m2, .string t2, .slice A2 F2.length k2, .string b2] 24)).heap[w.heap.size + 1]? = some (.cells #[.string m2, .string t2, .slice A2 F2.length k2, .string b2] 24 (0, 0)) := by rw [← sA]; exact heap_alloc_new wa _
  have hbB : Below wa.heap.size wa (wa.alloc (.cells #[.string m2, .string t2, .slice A2 F2.length k2, .string b2] 24)) := (Below.refl _ _).alloc (Nat.le_refl _) _
  have OA2 := (hbB.block _ (by rw [sA]; omega)).trans OA
  have hb0 := below_then hbA hbB
  generalize hwb : wa.alloc (.cells #[.string m2, .string t2, .slice A2 F2.length k2, .string b2] 24) = wb at OB hbB OA2 hb0
  have hPA : w.heap.size < wb.heap.size := (Array.getElem?_eq_some_iff.1 OA2).1
  have hPB : w.heap.size + 1 < wb.heap.size := (Array.getElem?_eq_some_iff.1 OB).1
  have c0 := first_any hK cP cA wb (hK w wb hG hb0)
  have cp := Lib.hid (fun (t : ByteArray) (ht : t.size ≤ mostS) (W : World) (hW : Below w.heap.size w W) => cP t W ht (hK w W hG hW))
  have cr1 := Lib.hid (fun (W : World) (hW : Below w.heap.size w W) => cR (.string m1) (.string t1) (.slice A1 F1.length k1) (.string b1) _ _ _ F1 W (sv_data m1).symm (sv_data t1).symm (sv_data b1).symm (h1.kept hW) (by simp only [Lib.size_eq] at s1; omega) (hK w W hG hW))
  have cr2 := Lib.hid (fun (W : World) (hW : Below w.heap.size w W) => cR (.string m2) (.string t2) (.slice A2 F2.length k2) (.string b2) _ _ _ F2 W (sv_data m2).symm (sv_data t2).symm (sv_data b2).symm (h2.kept hW) (by simp only [Lib.size_eq] at s2; omega) (hK w W hG hW))
  have hb0' := Lib.hid hb0
  clear hbA hbB hb0 OA
  go_enter Tryd.func5, Tryd.ntmps5
  go_wp2_with fail
  go_at_call 8
  subst hwb
  subst hwa
  with_reducible refine c0.mono ?_
  rintro e w1 ⟨rfl, hb1⟩
  have d1 := Lib.hid (below_then hb0'.out hb1)
  have OA3 := (hb1.block _ hPA).trans OA2
  have OB3 := (hb1.block _ hPB).trans OB
  have OA3h := Lib.hid OA3
  have OB3h := Lib.hid OB3
  have p0 : w1.cell? ⟨w.heap.size, 0, none⟩ = some (.string m1) := (Lib.cell_of_heap OA3 0).trans rfl
  have p1 : w1.cell? ⟨w.heap.size, 1, none⟩ = some (.string t1) := (Lib.cell_of_heap OA3 1).trans rfl
  have p2 : w1.cell? ⟨w.heap.size, 2, none⟩ = some (.slice A1 F1.length k1) := (Lib.cell_of_heap OA3 2).trans rfl
  have p3 : w1.cell? ⟨w.heap.size, 3, none⟩ = some (.string b1) := (Lib.cell_of_heap OA3 3).trans rfl
  clear hb1 c0 OA2 OB hPA hPB hb0' sA OA3 OB3
  go_wp2_with fail
  go_at_call 9
  with_reducible refine (cr1.out w1 d1.out).mono ?_
  rintro e w2 ⟨rfl, hb2⟩
  have hPA : w.heap.size < w1.heap.size := (Array.getElem?_eq_some_iff.1 OA3h.out).1
  have hPB : w.heap.size + 1 < w1.heap.size := (Array.getElem?_eq_some_iff.1 OB3h.out).1
  have OA4 := Lib.hid ((hb2.block _ hPA).trans OA3h.out)
  have OB4 := (hb2.block _ hPB).trans OB3h.out
  have OB4h := Lib.hid OB4
  have d2 := Lib.hid (below_then d1.out hb2)
  clear p0 p1 p2 p3 hb2 OA3h OB3h hPA hPB d1 cr1
  have q0 : w2.cell? ⟨w.heap.size + 1, 0, none⟩ = some (.string m2) := (Lib.cell_of_heap OB4 0).trans rfl
  have q1 : w2.cell? ⟨w.heap.size + 1, 1, none⟩ = some (.string t2) := (Lib.cell_of_heap OB4 1).trans rfl
  have q2 : w2.cell? ⟨w.heap.size + 1, 2, none⟩ = some (.slice A2 F2.length k2) := (Lib.cell_of_heap OB4 2).trans rfl
  have q3 : w2.cell? ⟨w.heap.size + 1, 3, none⟩ = some (.string b2) := (Lib.cell_of_heap OB4 3).trans rfl
  clear OB4
  obtain ⟨⟨R1, C1⟩, e1⟩ : ∃ r, printQ m1.data.toList t1.data.toList F1 b1.data.toList = r := ⟨_, rfl⟩
  obtain ⟨⟨R2, C2⟩, e2⟩ : ∃ r, printQ m2.data.toList t2.data.toList F2 b2.data.toList = r := ⟨_, rfl⟩
  simp only [e1]
  obtain ⟨S1, v1, n1⟩ := sv_some R1
  obtain ⟨S2, v2, n2⟩ := sv_some R2
  rw [v1]
  go_wp2_with fail
  go_at_call 9
  with_reducible refine (cr2.out w2 d2.out).mono ?_
  rintro e w3 ⟨rfl, hb3⟩
  simp only [e2]
  rw [v2]
  have hPA : w.heap.size < w2.heap.size := (Array.getElem?_eq_some_iff.1 OA4.out).1
  have hPB : w.heap.size + 1 < w2.heap.size := (Array.getElem?_eq_some_iff.1 OB4h.out).1
  have OA5 := Lib.hid ((hb3.block _ hPA).trans OA4.out)
  have OB5 := Lib.hid ((hb3.block _ hPB).trans OB4h.out)
  have d3 := Lib.hid (below_then d2.out hb3)
  clear q0 q1 q2 q3 hb3 OA4 OB4h hPA hPB d2 cr2
  by_cases hc : C1 = 0 ∧ C2 = 0
  rotate_left
  · by_cases hc1 : C1 = 0
    · have hc2 : ¬ C2 = 0 := fun h => hc ⟨hc1, h⟩
      go_wp2
      go_ret
      exact ⟨rfl, d3.out⟩
    · go_wp2
      go_ret
      exact ⟨rfl, d3.out⟩
  obtain ⟨rfl, rfl⟩ := hc
  have hl1 := write_len (printQ_ok e1).2
  have hl2 := write_len (printQ_ok e2).2
  have z1 : S1.size = R1.length := by rw [Lib.size_eq, n1]
  have z2 : S2.size = R2.length := by rw [Lib.size_eq, n2]
  have hw : IntKind.u64.wrap (S1.size : Int) = (S1.size : Int) := by
    unfold IntKind.wrap
    simp only [IntKind.bits, IntKind.signed]
    simp
    omega
  obtain ⟨k, hk, hkl⟩ := at_k z S1.size (by omega) (by omega)
  have hz1 := Lib.hid z1
  have hz2 := Lib.hid z2
  have hw' := Lib.hid hw
  have hk' := Lib.hid hk
  clear z1 z2 hw hk
  go_wp2_with fail
  · rename_i h
    rw [hw'.out] at h
    omega
  rotate_left
  · rename_i h
    exact absurd (by rw [hw'.out, hk'.out]; omega) h
  simp only [hw'.out, hk'.out]
  have z1 := hz1.out
  have z2 := hz2.out
  have y1 : (S1.extract 0 ((k : Nat) : Int).toNat).data.toList = R1.take k := by rw [Lib.extract_data, n1]; rfl
  have g1 := cp.out (S1.extract 0 ((k : Nat) : Int).toNat) (by rw [Lib.size_eq, y1, List.length_take]; unfold mostS; omega) w3 d3.out
  rw [y1, readQ_part e1 k (by omega)] at g1
  go_at_call 12
  with_reducible refine g1.mono ?_
  rintro e w4 ⟨⟨v, rfl, hv⟩, hb4⟩
  obtain ⟨A4, k4, rfl⟩ := hv.form
  have hPA : w.heap.size < w3.heap.size := (Array.getElem?_eq_some_iff.1 OA5.out).1
  have hPB : w.heap.size + 1 < w3.heap.size := (Array.getElem?_eq_some_iff.1 OB5.out).1
  have OA6 := Lib.hid ((hb4.block _ hPA).trans OA5.out)
  have OB6 := Lib.hid ((hb4.block _ hPB).trans OB5.out)
  have d4 := Lib.hid (below_then d3.out hb4)
  clear g1 hv hb4 OA5 OB5 hPA hPB d3 y1 z1 z2
  have ha4 : Below w4.heap.size w4 (w4.alloc (.cells #[.string ⟨#[]⟩, .string ⟨#[]⟩, .slice A4 0 k4, .string ⟨#[]⟩] 24)) := (Below.refl _ _).alloc (Nat.le_refl _) _
  have d5 := Lib.hid (below_then d4.out ha4)
  have g2 := cp.out (S1 ++ S2) (by rw [ByteArray.size_append]; have := hz1.out; have := hz2.out; unfold mostS; omega) _ d5.out
  rw [show (S1 ++ S2).data.toList = R1 ++ R2 by rw [ByteArray.data_append, Array.toList_append, n1, n2], readQ_pr e1 R2] at g2
  have hPA : w.heap.size < w4.heap.size := (Array.getElem?_eq_some_iff.1 OA6.out).1
  have hPB : w.heap.size + 1 < w4.heap.size := (Array.getElem?_eq_some_iff.1 OB6.out).1
  have OA7 := Lib.hid ((ha4.block _ hPA).trans OA6.out)
  have OB7 := Lib.hid ((ha4.block _ hPB).trans OB6.out)
  clear OA6 OB6 d4 ha4 hPA hPB
  go_wp2_with fail
  · rename_i h
    have := hz1.out
    have := hz2.out
    omega
  go_at_call 12
  with_reducible refine g2.mono ?_
  rintro e w5 ⟨⟨v, rfl, hv⟩, hb5⟩
  obtain ⟨A5, k5, rfl⟩ := hv.form
  simp only [sv_data]
  have hPA : w.heap.size < _ := (Array.getElem?_eq_some_iff.1 OA7.out).1
  have hPB : w.heap.size + 1 < _ := (Array.getElem?_eq_some_iff.1 OB7.out).1
  have OA8 := (hb5.block _ hPA).trans OA7.out
  have OB8 := (hb5.block _ hPB).trans OB7.out
  have d6 := Lib.hid (below_then d5.out hb5)
  clear g2 hv hb5 OA7 OB7 d5 hPA hPB
  have OA9 : (w5.alloc (.cells #[.string m1, .string t1, .slice A5 F1.length k5, .string b1] 24)).heap[w.heap.size]? = some (.cells #[.string m1, .string t1, .slice A1 F1.length k1, .string b1] 24 (0, 0)) := (((Below.refl w5.heap.size w5).alloc (Nat.le_refl _) _).block _ (Array.getElem?_eq_some_iff.1 OA8).1).trans OA8
  have p3 : (w5.alloc (.cells #[.string m1, .string t1, .slice A5 F1.length k5, .string b1] 24)).cell? ⟨w.heap.size, 3, none⟩ = some (.string b1) := (Lib.cell_of_heap OA9 3).trans rfl
  have OX : (w5.alloc (.cells #[.string m1, .string t1, .slice A5 F1.length k5, .string b1] 24)).heap[w5.heap.size]? = some (.cells #[.string m1, .string t1, .slice A5 F1.length k5, .string b1] 24 (0, 0)) := heap_alloc_new w5 _
  have p4 : (w5.alloc (.cells #[.string m1, .string t1, .slice A5 F1.length k5, .string b1] 24)).cell? ⟨w5.heap.size, 3, none⟩ = some (.string b1) := (Lib.cell_of_heap OX 3).trans rfl
  have ha5 : Below w5.heap.size w5 (w5.alloc (.cells #[.string m1, .string t1, .slice A5 F1.length k5, .string b1] 24)) := (Below.refl _ _).alloc (Nat.le_refl _) _
  have d7 := Lib.hid (below_then d6.out ha5)
  have OB9 := Lib.hid ((ha5.block _ (Array.getElem?_eq_some_iff.1 OB8).1).trans OB8)
  clear OA8 OB8 OA9 OX d6 ha5
  have z1 := hz1.out
  go_wp2_with fail
  have y2 : ((S1 ++ S2).extract R1.length (R1.length + S2.size)).data.toList = R2 := by
    rw [Lib.extract_data, ByteArray.data_append, Array.toList_append, n1, n2, List.drop_left, List.take_of_length_le (by rw [hz2.out]; omega)]
  have g3 := cp.out ((S1 ++ S2).extract R1.length (R1.length + S2.size)) (by rw [Lib.size_eq, y2]; unfold mostS; omega) _ d7.out
  rw [y2, show readQ R2 = readQ (R2 ++ []) by rw [List.append_nil], readQ_pr e2 []] at g3
  go_at_call 12
  with_reducible refine g3.mono ?_
  rintro e w6 ⟨⟨v, rfl, hv⟩, hb6⟩
  obtain ⟨A6, k6, rfl⟩ := hv.form
  simp only [sv_data]
  have OB10 := (hb6.block _ (Array.getElem?_eq_some_iff.1 OB9.out).1).trans OB9.out
  have d8 := Lib.hid (below_then d7.out hb6)
  have OBz : (w6.alloc (.cells #[.string m2, .string t2, .slice A6 F2.length k6, .string b2] 24)).heap[w.heap.size + 1]? = some (.cells #[.string m2, .string t2, .slice A2 F2.length k2, .string b2] 24 (0, 0)) := (((Below.refl w6.heap.size w6).alloc (Nat.le_refl _) _).block _ (Array.getElem?_eq_some_iff.1 OB10).1).trans OB10
  have OY : (w6.alloc (.cells #[.string m2, .string t2, .slice A6 F2.length k6, .string b2] 24)).heap[w6.heap.size]? = some (.cells #[.string m2, .string t2, .slice A6 F2.length k6, .string b2] 24 (0, 0)) := heap_alloc_new w6 _
  have d9 := Lib.hid (below_then d8.out ((Below.refl w6.heap.size w6).alloc (Nat.le_refl _) (.cells #[.string m2, .string t2, .slice A6 F2.length k6, .string b2] 24)))
  have q0 : (w6.alloc (.cells #[.string m2, .string t2, .slice A6 F2.length k6, .string b2] 24)).cell? ⟨w.heap.size + 1, 0, none⟩ = some (.string m2) := (Lib.cell_of_heap OBz 0).trans rfl
  have q3 : (w6.alloc (.cells #[.string m2, .string t2, .slice A6 F2.length k6, .string b2] 24)).cell? ⟨w.heap.size + 1, 3, none⟩ = some (.string b2) := (Lib.cell_of_heap OBz 3).trans rfl
  have r0 : (w6.alloc (.cells #[.string m2, .string t2, .slice A6 F2.length k6, .string b2] 24)).cell? ⟨w6.heap.size, 0, none⟩ = some (.string m2) := (Lib.cell_of_heap OY 0).trans rfl
  have r3 : (w6.alloc (.cells #[.string m2, .string t2, .slice A6 F2.length k6, .string b2] 24)).cell? ⟨w6.heap.size, 3, none⟩ = some (.string b2) := (Lib.cell_of_heap OY 3).trans rfl
  have z2 := hz2.out
  clear g3 hv hb6 OB9 OB10 d7 d8 OBz OY p3 p4 y2
  go_wp2
  go_ret
  exact ⟨rfl, d9.out⟩
end Go.Proofs.YtiaollhiggeolaaDoor.Ht
