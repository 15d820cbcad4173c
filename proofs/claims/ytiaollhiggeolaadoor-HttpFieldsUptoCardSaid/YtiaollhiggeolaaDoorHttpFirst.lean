/-
  THE WALK OF THE LAWS' first.
-/
import Derived.Test.YtiaollhiggeolaaDoorHttpMem
import Derived.SizedLaws
set_option linter.unusedVariables false
namespace Go.Proofs.YtiaollhiggeolaaDoor.Ht
open Go.Lib Go.RowKit

theorem first_r1 : readQ [71, 69, 84, 32, 47, 97, 47, 32, 72, 84, 84, 80, 47, 49, 46, 49, 13, 10, 68, 101, 112, 116, 104, 58, 32, 49, 13, 10, 13, 10] = .inl (([71, 69, 84], [47, 97, 47]), [([68, 101, 112, 116, 104], [49])], [], 30) := by decide +kernel
theorem first_r2 : readQ [71, 69, 84, 32, 47, 97, 47, 32, 72, 84, 84, 80, 47, 49, 46, 49, 13, 10, 68, 101, 112, 116, 104, 58, 32, 49, 13, 10, 13] = .inr 91 := by decide +kernel
theorem dec_204 : decDigits 204 = [50, 48, 52] := by
  rw [Ch.dec_big (by decide), Ch.dec_big (u := 204 / 10) (by decide), Ch.dec_small (u := 204 / 10 / 10) (by decide)]; rfl
theorem dec_0 : decDigits 0 = [48] := Ch.dec_small (by decide)
theorem first_p : printA 204 [] [] = ([72, 84, 84, 80, 47, 49, 46, 49, 32, 50, 48, 52, 32, 78, 111, 32, 67, 111, 110, 116, 101, 110, 116, 13, 10, 67, 111, 110, 116, 101, 110, 116, 45, 76, 101, 110, 103, 116, 104, 58, 32, 48, 13, 10, 13, 10], 0) := by
  unfold printA rowA
  rw [if_pos (by decide), show (204 : Int).toNat = 204 from rfl, dec_204]
  unfold write headR clR
  rw [show ([] : Row).length = 0 from rfl, dec_0]
  decide +kernel
set_option maxRecDepth 100000 in
theorem first_c1 {G : World → Prop} (cP : ParseQC G) (w : World) (hG : G w) : Calls Tryd.prog 12 #[.string ⟨#[71, 69, 84, 32, 47, 97, 47, 32, 72, 84, 84, 80, 47, 49, 46, 49, 13, 10, 68, 101, 112, 116, 104, 58, 32, 49, 13, 10, 13, 10]⟩] w fun e w' => (∃ fv, e = .returned (.tuple #[.agg #[.string ⟨#[71, 69, 84]⟩, .string ⟨#[47, 97, 47]⟩, fv, .string ⟨#[]⟩], .int .i64 30, .int .i64 0]) ∧ FsAt w' fv [([68, 101, 112, 116, 104], [49])]) ∧ Below w.heap.size w w' := by
  have h := cP ⟨#[71, 69, 84, 32, 47, 97, 47, 32, 72, 84, 84, 80, 47, 49, 46, 49, 13, 10, 68, 101, 112, 116, 104, 58, 32, 49, 13, 10, 13, 10]⟩ w (by decide) hG
  rw [show (⟨#[71, 69, 84, 32, 47, 97, 47, 32, 72, 84, 84, 80, 47, 49, 46, 49, 13, 10, 68, 101, 112, 116, 104, 58, 32, 49, 13, 10, 13, 10]⟩ : ByteArray).data.toList = [71, 69, 84, 32, 47, 97, 47, 32, 72, 84, 84, 80, 47, 49, 46, 49, 13, 10, 68, 101, 112, 116, 104, 58, 32, 49, 13, 10, 13, 10] from rfl, first_r1] at h
  exact h
set_option maxRecDepth 100000 in
theorem first_c2 {G : World → Prop} (cP : ParseQC G) (w : World) (hG : G w) : Calls Tryd.prog 12 #[.string ⟨#[71, 69, 84, 32, 47, 97, 47, 32, 72, 84, 84, 80, 47, 49, 46, 49, 13, 10, 68, 101, 112, 116, 104, 58, 32, 49, 13, 10, 13]⟩] w fun e w' => (∃ fv, e = .returned (.tuple #[.agg #[.string ⟨#[]⟩, .string ⟨#[]⟩, fv, .string ⟨#[]⟩], .int .i64 0, .int .i64 91]) ∧ FsAt w' fv []) ∧ Below w.heap.size w w' := by
  have h := cP ⟨#[71, 69, 84, 32, 47, 97, 47, 32, 72, 84, 84, 80, 47, 49, 46, 49, 13, 10, 68, 101, 112, 116, 104, 58, 32, 49, 13, 10, 13]⟩ w (by decide) hG
  rw [show (⟨#[71, 69, 84, 32, 47, 97, 47, 32, 72, 84, 84, 80, 47, 49, 46, 49, 13, 10, 68, 101, 112, 116, 104, 58, 32, 49, 13, 10, 13]⟩ : ByteArray).data.toList = [71, 69, 84, 32, 47, 97, 47, 32, 72, 84, 84, 80, 47, 49, 46, 49, 13, 10, 68, 101, 112, 116, 104, 58, 32, 49, 13, 10, 13] from rfl, first_r2] at h
  exact h
set_option maxRecDepth 100000 in
theorem first_c3 {G : World → Prop} (cR : PrintAC G) (w : World) (hG : G w) : Calls Tryd.prog 14 #[.agg #[.int .i64 204, .slice none 0 0, .string ⟨#[]⟩]] w fun e w' => e = .returned (.tuple #[.string ⟨#[72, 84, 84, 80, 47, 49, 46, 49, 32, 50, 48, 52, 32, 78, 111, 32, 67, 111, 110, 116, 101, 110, 116, 13, 10, 67, 111, 110, 116, 101, 110, 116, 45, 76, 101, 110, 103, 116, 104, 58, 32, 48, 13, 10, 13, 10]⟩, .int .i64 0]) ∧ Below w.heap.size w w' := by
  have h := cR 204 (.slice none 0 0) (.string ⟨#[]⟩) [] [] w rfl (FsAt.nil w none) (by decide) hG
  rw [first_p] at h
  exact h
set_option maxHeartbeats 2000000 in
set_option maxRecDepth 100000 in
theorem first_any {G : World → Prop} (hK : Keeps G) (cP : ParseQC G) (cR : PrintAC G) (w : World) (hG : G w) :
    Calls Tryd.prog 8 #[] w fun e w' => e = .returned (.bool true) ∧ Below w.heap.size w w' := by
  have c1 := first_c1 cP w hG
  have c2 := Lib.hid (fun (W : World) (hW : Below w.heap.size w W) => first_c2 cP W (hK w W hG hW))
  have c3 := Lib.hid (fun (W : World) (hW : Below w.heap.size w W) => first_c3 cR W (hK w W hG hW))
  go_enter Tryd.func8, Tryd.ntmps8
  go_wp2_with fail
  go_at_call 12
  with_reducible refine c1.mono ?_
  rintro e w1 ⟨⟨v, rfl, hv⟩, hb1⟩
  obtain ⟨A, c, rfl⟩ := hv.form
  have hO : (w1.alloc (.cells #[.string ⟨#[71, 69, 84]⟩, .string ⟨#[47, 97, 47]⟩, .slice A 1 c, .string ⟨#[]⟩] 24)).heap[w1.heap.size]? = some (.cells #[.string ⟨#[71, 69, 84]⟩, .string ⟨#[47, 97, 47]⟩, .slice A 1 c, .string ⟨#[]⟩] 24 (0, 0)) := heap_alloc_new w1 _
  have hbz : Below w.heap.size w (w1.alloc (.cells #[.string ⟨#[71, 69, 84]⟩, .string ⟨#[47, 97, 47]⟩, .slice A 1 c, .string ⟨#[]⟩] 24)) := hb1.alloc hb1.size _
  have hPz : w1.heap.size < (w1.alloc (.cells #[.string ⟨#[71, 69, 84]⟩, .string ⟨#[47, 97, 47]⟩, .slice A 1 c, .string ⟨#[]⟩] 24)).heap.size := (Array.getElem?_eq_some_iff.1 hO).1
  have d2 := Lib.hid (c2.out _ hbz)
  have hO' := Lib.hid hO
  have hbz' := Lib.hid hbz
  have hPz' := Lib.hid hPz
  clear c1 hv c2 hb1 hO hbz hPz
  go_wp2_with fail
  go_at_call 12
  with_reducible refine d2.out.mono ?_
  rintro e w2 ⟨⟨v2, rfl, hv2⟩, hb2⟩
  have hb2' := below_then hbz'.out hb2
  have hO2 := (hb2.block _ hPz'.out).trans hO'.out
  have hP2 : w1.heap.size < w2.heap.size := (Array.getElem?_eq_some_iff.1 hO2).1
  obtain ⟨A2, k2, rfl⟩ := hv2.form
  have hba : Below w2.heap.size w2 (w2.alloc (.cells #[.string ⟨#[]⟩, .string ⟨#[]⟩, .slice A2 0 k2, .string ⟨#[]⟩] 24)) := (Below.refl _ _).alloc (Nat.le_refl _) _
  have hb3z : Below w.heap.size w (w2.alloc (.cells #[.string ⟨#[]⟩, .string ⟨#[]⟩, .slice A2 0 k2, .string ⟨#[]⟩] 24)) := below_then hb2' hba
  have hO2z := Lib.hid ((hba.block _ hP2).trans hO2)
  have hP2z := Lib.hid (Nat.lt_of_lt_of_le hP2 hba.size)
  have d3 := Lib.hid (c3.out _ hb3z)
  have hb3z' := Lib.hid hb3z
  clear hb2 d2 c3 hv2 hO' hPz' hbz' hO2 hP2 hba hb3z hb2'
  go_wp2_with fail
  go_at_call 14
  with_reducible refine d3.out.mono ?_
  rintro e w3 ⟨rfl, hb3⟩
  have hb3' := Lib.hid (below_then hb3z'.out hb3)
  have hO3 := (hb3.block _ hP2z.out).trans hO2z.out
  have q0 : w3.cell? ⟨w1.heap.size, 0, none⟩ = some (.string ⟨#[71, 69, 84]⟩) := (Lib.cell_of_heap hO3 0).trans rfl
  have q1 : w3.cell? ⟨w1.heap.size, 1, none⟩ = some (.string ⟨#[47, 97, 47]⟩) := (Lib.cell_of_heap hO3 1).trans rfl
  have q2 : w3.cell? ⟨w1.heap.size, 2, none⟩ = some (.slice A 1 c) := (Lib.cell_of_heap hO3 2).trans rfl
  clear hb3 d3 hO3 hO2z hP2z hb3z'
  go_wp2
  go_ret
  exact ⟨rfl, hb3'.out⟩
end Go.Proofs.YtiaollhiggeolaaDoor.Ht
