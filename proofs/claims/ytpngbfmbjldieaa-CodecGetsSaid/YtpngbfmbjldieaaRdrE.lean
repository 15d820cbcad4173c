/-
  A READER IN MEMORY: codec's getCommand, read to 'comS'. (Written by tools/genrdre.py.)
-/
import Derived.Test.YtpngbfmbjldieaaRdrD
set_option linter.unusedVariables false
namespace Go.Proofs.Ytpngbfmbjldieaa.Ly
open Go.Lib Go.RowKit
open Bo (Kp Row ownsRow_heap sv sv_data)
open Cd (St takeS numS intS toI RowsAt cntS txtS bytS flgS wrong endS rowS lstS encS encI encE Com comS comV comC setAll setAll_heap setAll_other setAll_size setAll_kp setArr setArr_all)

theorem sz_int (s : St) : szS (intS s).2 ≤ szS s := sz_take 8 s
theorem sz_txt (s : St) : szS (txtS s).2 ≤ szS s := Nat.le_trans (sz_take _ _) (sz_cnt s).2
/-- a result's block, stored whole: the reader's state stays -/
theorem res_fin {w W : World} {rb R : Nat} {s : St} {rc : Array Value} {ty : TypeId} (h : RdIs W rb s) (hR : W.heap[R]? = some (.cells rc ty (0, 0))) (hrb : rb < R) (hK : Kp [rb] w W) (hw : w.heap.size ≤ R) (vs : List Value) (hv : vs.length = rc.size) :
    (setAll W R 0 vs).heap[R]? = some (.cells vs.toArray ty (0, 0)) ∧ RdIs (setAll W R 0 vs) rb s ∧ Kp [rb] w (setAll W R 0 vs) :=
  ⟨by rw [← setArr_all hv]; exact setAll_heap vs W rc 0 hR, h.frame fun k hk => setAll_other (by omega) vs W 0, setAll_kp hw vs W 0 hK⟩

set_option maxHeartbeats 16000000 in
set_option maxRecDepth 100000 in
theorem rCommand_any (w : World) (rb : Nat) (s : St) (h : RdIs w rb s) (hsz : szS s ≤ 1099511627776) :
    Calls Try.prog 28 #[rr rb] w fun e w' => ∃ nv, e = .returned (comV (comS s).1 nv) ∧ w'.ownsRow w.heap.size 9 1 nv (comS s).1.names.length ((comS s).1.names.flatMap encS) ∧ RdIs w' rb (comS s).2 ∧ Kp [rb] w w' := by
  obtain ⟨goal, hgoal⟩ : ∃ g, comS s = g := ⟨_, rfl⟩
  rw [hgoal]
  have hgoal' := Lib.hid hgoal
  have hrl := h.lt
  obtain ⟨w0, hw0⟩ : ∃ w0, w.alloc (.cells #[.int .i64 0, .string ⟨#[]⟩, .string ⟨#[]⟩, .string ⟨#[]⟩, .string ⟨#[]⟩, .string ⟨#[]⟩, .string ⟨#[]⟩, .slice none 0 0, .int .i64 0, .int .i64 0, .int .i64 0] 27) = w0 := ⟨_, rfl⟩
  have hb0 : Below w.heap.size w w0 := by rw [← hw0]; exact (Below.refl _ _).alloc (Nat.le_refl _) _
  have hres0 : w0.heap[w.heap.size]? = some (.cells #[.int .i64 0, .string ⟨#[]⟩, .string ⟨#[]⟩, .string ⟨#[]⟩, .string ⟨#[]⟩, .string ⟨#[]⟩, .string ⟨#[]⟩, .slice none 0 0, .int .i64 0, .int .i64 0, .int .i64 0] 27 (0, 0)) := by rw [← hw0]; exact heap_alloc_new w _
  have hR0 := Lib.hid (h.kept hb0)
  obtain ⟨R, hRe⟩ : ∃ R, w.heap.size = R := ⟨_, rfl⟩
  rw [hRe] at hres0 hrl
  have hRlt := (Array.getElem?_eq_some_iff.1 hres0).1
  have hrs := Lib.hid fun (W : World) (hK : Kp [rb] w0 W) => (hK.block R hRlt (by simp; omega)).trans hres0
  have hK0 : Hid (Kp [rb] w0 w0) := Lib.hid (Kp.refl _ _)
  have hb0' := Lib.hid hb0
  have hRe' := Lib.hid hRe
  obtain ⟨s0, hs0⟩ : ∃ x, s = x := ⟨_, rfl⟩
  have z0 : szS s0 ≤ 1099511627776 := by rw [← hs0]; exact hsz
  rw [hs0] at hR0
  have hs0' := Lib.hid hs0
  clear h hb0 hres0 hgoal hsz hs0
  go_enter Try.func28, Try.ntmps28
  have cT := rWhole_any w0 rb s0 hR0.out
  obtain ⟨y0, hy0⟩ : ∃ y, (intS s0).1 = y := ⟨_, rfl⟩
  obtain ⟨s1, hs1⟩ : ∃ x, (intS s0).2 = x := ⟨_, rfl⟩
  have z1 : szS s1 ≤ 1099511627776 := by rw [← hs1]; exact Nat.le_trans (sz_int s0) z0
  rw [hy0, hs1] at cT
  have E0 := Lib.hid (And.intro hy0 hs1)
  clear hy0 hs1
  go_wp2_with fail
  go_at_call 48
  refine cT.mono ?_
  rintro e w1 ⟨rfl, hR, hK⟩
  have hR1 := Lib.hid hR
  have hK1 := Lib.hid (hK0.out.trans hK)
  clear cT hR hK
  have cT := rText_any w1 rb s1 hR1.out
  obtain ⟨y1, hy1⟩ : ∃ y, (txtS s1).1 = y := ⟨_, rfl⟩
  obtain ⟨s2, hs2⟩ : ∃ x, (txtS s1).2 = x := ⟨_, rfl⟩
  have z2 : szS s2 ≤ 1099511627776 := by rw [← hs2]; exact Nat.le_trans (sz_txt s1) z1
  rw [hy1, hs2] at cT
  have E1 := Lib.hid (And.intro hy1 hs2)
  unfold sv at cT
  obtain ⟨x1, hx1⟩ : ∃ x : ByteArray, (⟨y1.toArray⟩ : ByteArray) = x := ⟨_, rfl⟩
  rw [hx1] at cT
  have X1 := Lib.hid hx1
  clear hx1
  clear hy1 hs2
  go_wp2_with fail
  go_at_call 49
  refine cT.mono ?_
  rintro e w2 ⟨rfl, hR, hK⟩
  have hR2 := Lib.hid hR
  have hK2 := Lib.hid (hK1.out.trans hK)
  clear cT hR hK
  have cT := rText_any w2 rb s2 hR2.out
  obtain ⟨y2, hy2⟩ : ∃ y, (txtS s2).1 = y := ⟨_, rfl⟩
  obtain ⟨s3, hs3⟩ : ∃ x, (txtS s2).2 = x := ⟨_, rfl⟩
  have z3 : szS s3 ≤ 1099511627776 := by rw [← hs3]; exact Nat.le_trans (sz_txt s2) z2
  rw [hy2, hs3] at cT
  have E2 := Lib.hid (And.intro hy2 hs3)
  unfold sv at cT
  obtain ⟨x2, hx2⟩ : ∃ x : ByteArray, (⟨y2.toArray⟩ : ByteArray) = x := ⟨_, rfl⟩
  rw [hx2] at cT
  have X2 := Lib.hid hx2
  clear hx2
  clear hy2 hs3
  go_wp2_with fail
  go_at_call 49
  refine cT.mono ?_
  rintro e w3 ⟨rfl, hR, hK⟩
  have hR3 := Lib.hid hR
  have hK3 := Lib.hid (hK2.out.trans hK)
  clear cT hR hK
  have cT := rText_any w3 rb s3 hR3.out
  obtain ⟨y3, hy3⟩ : ∃ y, (txtS s3).1 = y := ⟨_, rfl⟩
  obtain ⟨s4, hs4⟩ : ∃ x, (txtS s3).2 = x := ⟨_, rfl⟩
  have z4 : szS s4 ≤ 1099511627776 := by rw [← hs4]; exact Nat.le_trans (sz_txt s3) z3
  rw [hy3, hs4] at cT
  have E3 := Lib.hid (And.intro hy3 hs4)
  unfold sv at cT
  obtain ⟨x3, hx3⟩ : ∃ x : ByteArray, (⟨y3.toArray⟩ : ByteArray) = x := ⟨_, rfl⟩
  rw [hx3] at cT
  have X3 := Lib.hid hx3
  clear hx3
  clear hy3 hs4
  go_wp2_with fail
  go_at_call 49
  refine cT.mono ?_
  rintro e w4 ⟨rfl, hR, hK⟩
  have hR4 := Lib.hid hR
  have hK4 := Lib.hid (hK3.out.trans hK)
  clear cT hR hK
  have cT := rText_any w4 rb s4 hR4.out
  obtain ⟨y4, hy4⟩ : ∃ y, (txtS s4).1 = y := ⟨_, rfl⟩
  obtain ⟨s5, hs5⟩ : ∃ x, (txtS s4).2 = x := ⟨_, rfl⟩
  have z5 : szS s5 ≤ 1099511627776 := by rw [← hs5]; exact Nat.le_trans (sz_txt s4) z4
  rw [hy4, hs5] at cT
  have E4 := Lib.hid (And.intro hy4 hs5)
  unfold sv at cT
  obtain ⟨x4, hx4⟩ : ∃ x : ByteArray, (⟨y4.toArray⟩ : ByteArray) = x := ⟨_, rfl⟩
  rw [hx4] at cT
  have X4 := Lib.hid hx4
  clear hx4
  clear hy4 hs5
  go_wp2_with fail
  go_at_call 49
  refine cT.mono ?_
  rintro e w5 ⟨rfl, hR, hK⟩
  have hR5 := Lib.hid hR
  have hK5 := Lib.hid (hK4.out.trans hK)
  clear cT hR hK
  have cT := rText_any w5 rb s5 hR5.out
  obtain ⟨y5, hy5⟩ : ∃ y, (txtS s5).1 = y := ⟨_, rfl⟩
  obtain ⟨s6, hs6⟩ : ∃ x, (txtS s5).2 = x := ⟨_, rfl⟩
  have z6 : szS s6 ≤ 1099511627776 := by rw [← hs6]; exact Nat.le_trans (sz_txt s5) z5
  rw [hy5, hs6] at cT
  have E5 := Lib.hid (And.intro hy5 hs6)
  unfold sv at cT
  obtain ⟨x5, hx5⟩ : ∃ x : ByteArray, (⟨y5.toArray⟩ : ByteArray) = x := ⟨_, rfl⟩
  rw [hx5] at cT
  have X5 := Lib.hid hx5
  clear hx5
  clear hy5 hs6
  go_wp2_with fail
  go_at_call 49
  refine cT.mono ?_
  rintro e w6 ⟨rfl, hR, hK⟩
  have hR6 := Lib.hid hR
  have hK6 := Lib.hid (hK5.out.trans hK)
  clear cT hR hK
  have cT := rText_any w6 rb s6 hR6.out
  obtain ⟨y6, hy6⟩ : ∃ y, (txtS s6).1 = y := ⟨_, rfl⟩
  obtain ⟨s7, hs7⟩ : ∃ x, (txtS s6).2 = x := ⟨_, rfl⟩
  have z7 : szS s7 ≤ 1099511627776 := by rw [← hs7]; exact Nat.le_trans (sz_txt s6) z6
  rw [hy6, hs7] at cT
  have E6 := Lib.hid (And.intro hy6 hs7)
  unfold sv at cT
  obtain ⟨x6, hx6⟩ : ∃ x : ByteArray, (⟨y6.toArray⟩ : ByteArray) = x := ⟨_, rfl⟩
  rw [hx6] at cT
  have X6 := Lib.hid hx6
  clear hx6
  clear hy6 hs7
  go_wp2_with fail
  go_at_call 49
  refine cT.mono ?_
  rintro e w7 ⟨rfl, hR, hK⟩
  have hR7 := Lib.hid hR
  have hK7 := Lib.hid (hK6.out.trans hK)
  clear cT hR hK
  have cT := listedStr_any w7 rb s7 hR7.out z7
  obtain ⟨y7, hy7⟩ : ∃ y, (rowS txtS s7).1 = y := ⟨_, rfl⟩
  obtain ⟨s8, hs8⟩ : ∃ x, (rowS txtS s7).2 = x := ⟨_, rfl⟩
  rw [hy7, hs8] at cT
  have E7 := Lib.hid (And.intro hy7 hs8)
  clear hy7 hs8
  go_wp2_with fail
  go_at_call 50
  refine cT.mono ?_
  rintro e w8 ⟨v, rfl, hO, hR, hK⟩
  have hR8 := Lib.hid hR
  have hK8 := Lib.hid (hK7.out.trans hK)
  obtain ⟨ao, ac, rfl⟩ : ∃ a c, v = .slice a y7.length c := by
    rcases hO.2 with ⟨e, h0⟩ | ⟨g, cap, cur, e, _⟩
    · exact ⟨none, 0, by rw [e, h0]⟩
    · exact ⟨_, _, e⟩
  have hR7 : R + 1 ≤ w7.heap.size := by have := hK7.out.size; omega
  have hO8 := Lib.hid (own_low hO hR7)
  clear hO
  clear cT hR hK
  have cT := rWhole_any w8 rb s8 hR8.out
  obtain ⟨y8, hy8⟩ : ∃ y, (intS s8).1 = y := ⟨_, rfl⟩
  obtain ⟨s9, hs9⟩ : ∃ x, (intS s8).2 = x := ⟨_, rfl⟩
  rw [hy8, hs9] at cT
  have E8 := Lib.hid (And.intro hy8 hs9)
  clear hy8 hs9
  go_wp2_with fail
  go_at_call 48
  refine cT.mono ?_
  rintro e w9 ⟨rfl, hR, hK⟩
  have hR9 := Lib.hid hR
  have hK9 := Lib.hid (hK8.out.trans hK)
  have hO9 := Lib.hid (ownsRow_heap hO8.out fun g hg => hK.block g (World.ownsRow.lt hO8.out g hg).2 (by have := (World.ownsRow.lt hO8.out g hg).1; simp; omega))
  clear cT hR hK
  have cT := rWhole_any w9 rb s9 hR9.out
  obtain ⟨y9, hy9⟩ : ∃ y, (intS s9).1 = y := ⟨_, rfl⟩
  obtain ⟨s10, hs10⟩ : ∃ x, (intS s9).2 = x := ⟨_, rfl⟩
  rw [hy9, hs10] at cT
  have E9 := Lib.hid (And.intro hy9 hs10)
  clear hy9 hs10
  go_wp2_with fail
  go_at_call 48
  refine cT.mono ?_
  rintro e w10 ⟨rfl, hR, hK⟩
  have hR10 := Lib.hid hR
  have hK10 := Lib.hid (hK9.out.trans hK)
  have hO10 := Lib.hid (ownsRow_heap hO9.out fun g hg => hK.block g (World.ownsRow.lt hO9.out g hg).2 (by have := (World.ownsRow.lt hO9.out g hg).1; simp; omega))
  clear cT hR hK
  have cT := rWhole_any w10 rb s10 hR10.out
  obtain ⟨y10, hy10⟩ : ∃ y, (intS s10).1 = y := ⟨_, rfl⟩
  obtain ⟨s11, hs11⟩ : ∃ x, (intS s10).2 = x := ⟨_, rfl⟩
  rw [hy10, hs11] at cT
  have E10 := Lib.hid (And.intro hy10 hs11)
  clear hy10 hs11
  go_wp2_with fail
  go_at_call 48
  refine cT.mono ?_
  rintro e w11 ⟨rfl, hR, hK⟩
  have hR11 := Lib.hid hR
  have hK11 := Lib.hid (hK10.out.trans hK)
  have hO11 := Lib.hid (ownsRow_heap hO10.out fun g hg => hK.block g (World.ownsRow.lt hO10.out g hg).2 (by have := (World.ownsRow.lt hO10.out g hg).1; simp; omega))
  clear cT hR hK
  have hrb := hrs.out w11 hK11.out
  have r0 := Lib.cell_of_heap hrb 0
  have fr0 := Lib.frozen_of_heap hrb 0
  have r1 := Lib.cell_of_heap hrb 1
  have fr1 := Lib.frozen_of_heap hrb 1
  have r2 := Lib.cell_of_heap hrb 2
  have fr2 := Lib.frozen_of_heap hrb 2
  have r3 := Lib.cell_of_heap hrb 3
  have fr3 := Lib.frozen_of_heap hrb 3
  have r4 := Lib.cell_of_heap hrb 4
  have fr4 := Lib.frozen_of_heap hrb 4
  have r5 := Lib.cell_of_heap hrb 5
  have fr5 := Lib.frozen_of_heap hrb 5
  have r6 := Lib.cell_of_heap hrb 6
  have fr6 := Lib.frozen_of_heap hrb 6
  have r7 := Lib.cell_of_heap hrb 7
  have fr7 := Lib.frozen_of_heap hrb 7
  have r8 := Lib.cell_of_heap hrb 8
  have fr8 := Lib.frozen_of_heap hrb 8
  have r9 := Lib.cell_of_heap hrb 9
  have fr9 := Lib.frozen_of_heap hrb 9
  have r10 := Lib.cell_of_heap hrb 10
  have fr10 := Lib.frozen_of_heap hrb 10
  have hg := Lib.hid (show goal = (⟨y0, y1, y2, y3, y4, y5, y6, y7, y8, y9, y10⟩, s11) by
    rw [← hgoal'.out, hs0'.out]
    unfold comS
    simp only [E0.out.1, E0.out.2, E1.out.1, E1.out.2, E2.out.1, E2.out.2, E3.out.1, E3.out.2, E4.out.1, E4.out.2, E5.out.1, E5.out.2, E6.out.1, E6.out.2, E7.out.1, E7.out.2, E8.out.1, E8.out.2, E9.out.1, E9.out.2, E10.out.1, E10.out.2])
  have hF := res_fin hR11.out hrb hrl (Kp.trans (Kp.of_below hb0'.out) hK11.out) (by have := hRe'.out; omega) [.int .i64 y0, .string x1, .string x2, .string x3, .string x4, .string x5, .string x6, .slice ao y7.length ac, .int .i64 y8, .int .i64 y9, .int .i64 y10] rfl
  have hrow : (setAll w11 R 0 [.int .i64 y0, .string x1, .string x2, .string x3, .string x4, .string x5, .string x6, .slice ao y7.length ac, .int .i64 y8, .int .i64 y9, .int .i64 y10]).ownsRow (R + 1) 9 1 (.slice ao y7.length ac) y7.length (y7.flatMap encS) := ownsRow_heap hO11.out fun q hq => setAll_other (by have := (World.ownsRow.lt hO11.out q hq).1; omega) _ _ _
  simp only [setAll, Nat.reduceAdd, Nat.zero_add] at hF hrow
  have hF' := Lib.hid (And.intro hF hrow)
  have XX := Lib.hid (And.intro X1.out (And.intro X2.out (And.intro X3.out (And.intro X4.out (And.intro X5.out X6.out)))))
  clear hF hrow hrb hw0
  go_wp2
  have hres := fun tm (hp : tm.getD 2 undef = .pointer (some ⟨R, 0, none⟩)) => results_cell_row (fn := Try.f28) (p := 2) (ty := 27) rfl tm _ R _ _ _ _ hp hF'.out.1.1 Try.underlying27 rfl (by kernel_rfl)
  refine bodyPost_ret (hres _ rfl) rfl ⟨.slice ao y7.length ac, ?_, ?_, ?_, hF'.out.1.2.2⟩
  · rw [hg.out, ← XX.out.1, ← XX.out.2.1, ← XX.out.2.2.1, ← XX.out.2.2.2.1, ← XX.out.2.2.2.2.1, ← XX.out.2.2.2.2.2]; rfl
  · rw [hg.out]; exact own_low hF'.out.2 (by have := hRe'.out; omega)
  · rw [hg.out]; exact hF'.out.1.2.1
end Go.Proofs.Ytpngbfmbjldieaa.Ly
