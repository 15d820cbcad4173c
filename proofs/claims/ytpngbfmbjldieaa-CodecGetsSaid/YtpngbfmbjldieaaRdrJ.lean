/-
  codec.GetCommand, GetReply, GetLog: what they answer of every bytes. (Written by tools/genrdrj.py.)
-/
import Derived.Test.YtpngbfmbjldieaaRdrI
set_option linter.unusedVariables false
namespace Go.Proofs.Ytpngbfmbjldieaa.Ly
open Go.Lib Go.RowKit
open Bo (Kp Row ownsRow_heap sv sv_data)
open Cd (St endS encS encI encE En Rep repS repV rep0 Com comS comV comC com0 Lg lg0 logS logV setAll setAll_heap setAll_other setAll_size setAll_kp setArr setArr_all)

set_option maxHeartbeats 8000000 in
set_option maxRecDepth 100000 in
theorem getCom_any (w : World) (v : Value) (l : Row) (h : BIn w v l) (hl : l.length ≤ 1099511627776) :
    Calls Try.prog 10 #[v] w fun e w' => ∃ nv, e = .returned (.tuple #[comV (got comS com0 l).1 nv, .int .i64 ((got comS com0 l).2 : Int)]) ∧ w'.ownsRow w.heap.size 9 1 nv (got comS com0 l).1.names.length ((got comS com0 l).1.names.flatMap encS) ∧ Below w.heap.size w w' := by
  obtain ⟨w0, hw0⟩ : ∃ x, w.alloc (.cells #[.int .i64 0, .string ⟨#[]⟩, .string ⟨#[]⟩, .string ⟨#[]⟩, .string ⟨#[]⟩, .string ⟨#[]⟩, .string ⟨#[]⟩, .slice none 0 0, .int .i64 0, .int .i64 0, .int .i64 0] 27) = x := ⟨_, rfl⟩
  have hb0 : Below w.heap.size w w0 := by rw [← hw0]; exact (Below.refl _ _).alloc (Nat.le_refl _) _
  have hres0 : w0.heap[w.heap.size]? = some (.cells #[.int .i64 0, .string ⟨#[]⟩, .string ⟨#[]⟩, .string ⟨#[]⟩, .string ⟨#[]⟩, .string ⟨#[]⟩, .string ⟨#[]⟩, .slice none 0 0, .int .i64 0, .int .i64 0, .int .i64 0] 27 (0, 0)) := by rw [← hw0]; exact heap_alloc_new w _
  have hlt := (Array.getElem?_eq_some_iff.1 hres0).1
  have cW := wholeCom_any w0 v l (h.kept hb0) hl
  obtain ⟨R, hRe⟩ : ∃ b, w.heap.size = b := ⟨_, rfl⟩
  rw [hRe] at hres0 hlt
  have hb0' := Lib.hid hb0
  have hres' := Lib.hid hres0
  obtain ⟨g, hg⟩ : ∃ g, got comS com0 l = g := ⟨_, rfl⟩
  rw [hg] at cW ⊢
  obtain ⟨c, er⟩ := g
  obtain ⟨A, n, c0, rfl⟩ : ∃ A n c, v = .slice A n c := by obtain ⟨A, b, off, c, e, _⟩ := h; exact ⟨_, _, _, e⟩
  dsimp only at cW ⊢
  clear h hb0 hres0 hg
  go_enter Try.func10, Try.ntmps10
  go_wp2_with fail
  go_at_call 27
  refine cW.mono ?_
  rintro e w3 ⟨nv, rfl, hO, hb⟩
  obtain ⟨ao, ac, rfl⟩ := own_form hO
  obtain ⟨x1, hx1⟩ : ∃ x : ByteArray, (⟨c.book.toArray⟩ : ByteArray) = x := ⟨_, rfl⟩
  obtain ⟨x2, hx2⟩ : ∃ x : ByteArray, (⟨c.name.toArray⟩ : ByteArray) = x := ⟨_, rfl⟩
  obtain ⟨x3, hx3⟩ : ∃ x : ByteArray, (⟨c.data.toArray⟩ : ByteArray) = x := ⟨_, rfl⟩
  obtain ⟨x4, hx4⟩ : ∃ x : ByteArray, (⟨c.mat.toArray⟩ : ByteArray) = x := ⟨_, rfl⟩
  obtain ⟨x5, hx5⟩ : ∃ x : ByteArray, (⟨c.non.toArray⟩ : ByteArray) = x := ⟨_, rfl⟩
  obtain ⟨x6, hx6⟩ : ∃ x : ByteArray, (⟨c.tok.toArray⟩ : ByteArray) = x := ⟨_, rfl⟩
  unfold comV comC sv
  rw [hx1, hx2, hx3, hx4, hx5, hx6]
  have XX := Lib.hid (And.intro hx1 (And.intro hx2 (And.intro hx3 (And.intro hx4 (And.intro hx5 hx6)))))
  have hres3 := (hb.block R (by omega)).trans hres'.out
  have hB3 := hb0'.out.trans (hb.mono hb0'.out.size)
  have r0 := Lib.cell_of_heap hres3 0
  have f0 := Lib.frozen_of_heap hres3 0
  have r1 := Lib.cell_of_heap hres3 1
  have f1 := Lib.frozen_of_heap hres3 1
  have r2 := Lib.cell_of_heap hres3 2
  have f2 := Lib.frozen_of_heap hres3 2
  have r3 := Lib.cell_of_heap hres3 3
  have f3 := Lib.frozen_of_heap hres3 3
  have r4 := Lib.cell_of_heap hres3 4
  have f4 := Lib.frozen_of_heap hres3 4
  have r5 := Lib.cell_of_heap hres3 5
  have f5 := Lib.frozen_of_heap hres3 5
  have r6 := Lib.cell_of_heap hres3 6
  have f6 := Lib.frozen_of_heap hres3 6
  have r7 := Lib.cell_of_heap hres3 7
  have f7 := Lib.frozen_of_heap hres3 7
  have r8 := Lib.cell_of_heap hres3 8
  have f8 := Lib.frozen_of_heap hres3 8
  have r9 := Lib.cell_of_heap hres3 9
  have f9 := Lib.frozen_of_heap hres3 9
  have r10 := Lib.cell_of_heap hres3 10
  have f10 := Lib.frozen_of_heap hres3 10
  have hF := put_fin hres3 hB3 (by omega) [.int .i64 c.op, .string x1, .string x2, .string x3, .string x4, .string x5, .string x6, .slice ao c.names.length ac, .int .i64 c.pos, .int .i64 c.ses, .int .i64 c.seq] rfl
  have hrow0 : (setAll w3 R 0 [.int .i64 c.op, .string x1, .string x2, .string x3, .string x4, .string x5, .string x6, .slice ao c.names.length ac, .int .i64 c.pos, .int .i64 c.ses, .int .i64 c.seq]).ownsRow w.heap.size _ _ _ _ _ := own_low (ownsRow_heap hO fun q hq => setAll_other (by have := (World.ownsRow.lt hO q hq).1; omega) _ w3 0) hb0'.out.size
  simp only [setAll, Nat.reduceAdd, Nat.zero_add] at hF hrow0
  have hF' := Lib.hid hF
  have hW0 := Lib.hid hrow0
  clear hF hrow0 hres3 hB3 hb hO cW hx1 hx2 hx3 hx4 hx5 hx6
  go_wp2
  have hl := run_loadVar_row (P := Try.prog) _ R 27 27 _ _ _ hF'.out.1 Try.underlying27 rfl (by kernel_rfl)
  refine bodyPost_ret (res_two (fn := Try.f10) (p := 2) (u := 3) (ty := 27) rfl _ _ R _ rfl hl _ rfl) rfl ⟨.slice ao c.names.length ac, ?_, ?_, hF'.out.2⟩
  · rw [← XX.out.1, ← XX.out.2.1, ← XX.out.2.2.1, ← XX.out.2.2.2.1, ← XX.out.2.2.2.2.1, ← XX.out.2.2.2.2.2]; rfl
  · exact hW0.out

set_option maxHeartbeats 8000000 in
set_option maxRecDepth 100000 in
theorem getRep_any (w : World) (v : Value) (l : Row) (h : BIn w v l) (hl : l.length ≤ 1099511627776) :
    Calls Try.prog 11 #[v] w fun e w' => ∃ nv, e = .returned (.tuple #[repV (got repS rep0 l).1 nv, .int .i64 ((got repS rep0 l).2 : Int)]) ∧ w'.ownsRow w.heap.size 76 4 nv (got repS rep0 l).1.ents.length ((got repS rep0 l).1.ents.flatMap encE) ∧ Below w.heap.size w w' := by
  obtain ⟨w0, hw0⟩ : ∃ x, w.alloc (.cells #[.int .i64 0, .int .i64 0, .string ⟨#[]⟩, .slice none 0 0, .string ⟨#[]⟩] 33) = x := ⟨_, rfl⟩
  have hb0 : Below w.heap.size w w0 := by rw [← hw0]; exact (Below.refl _ _).alloc (Nat.le_refl _) _
  have hres0 : w0.heap[w.heap.size]? = some (.cells #[.int .i64 0, .int .i64 0, .string ⟨#[]⟩, .slice none 0 0, .string ⟨#[]⟩] 33 (0, 0)) := by rw [← hw0]; exact heap_alloc_new w _
  have hlt := (Array.getElem?_eq_some_iff.1 hres0).1
  have cW := wholeRep_any w0 v l (h.kept hb0) hl
  obtain ⟨R, hRe⟩ : ∃ b, w.heap.size = b := ⟨_, rfl⟩
  rw [hRe] at hres0 hlt
  have hb0' := Lib.hid hb0
  have hres' := Lib.hid hres0
  obtain ⟨g, hg⟩ : ∃ g, got repS rep0 l = g := ⟨_, rfl⟩
  rw [hg] at cW ⊢
  obtain ⟨c, er⟩ := g
  obtain ⟨A, n, c0, rfl⟩ : ∃ A n c, v = .slice A n c := by obtain ⟨A, b, off, c, e, _⟩ := h; exact ⟨_, _, _, e⟩
  dsimp only at cW ⊢
  clear h hb0 hres0 hg
  go_enter Try.func11, Try.ntmps11
  go_wp2_with fail
  go_at_call 29
  refine cW.mono ?_
  rintro e w3 ⟨nv, rfl, hO, hb⟩
  obtain ⟨ao, ac, rfl⟩ := own_form hO
  obtain ⟨x1, hx1⟩ : ∃ x : ByteArray, (⟨c.data.toArray⟩ : ByteArray) = x := ⟨_, rfl⟩
  obtain ⟨x2, hx2⟩ : ∃ x : ByteArray, (⟨c.tok.toArray⟩ : ByteArray) = x := ⟨_, rfl⟩
  unfold repV sv
  rw [hx1, hx2]
  have XX := Lib.hid (And.intro hx1 hx2)
  have hres3 := (hb.block R (by omega)).trans hres'.out
  have hB3 := hb0'.out.trans (hb.mono hb0'.out.size)
  have r0 := Lib.cell_of_heap hres3 0
  have f0 := Lib.frozen_of_heap hres3 0
  have r1 := Lib.cell_of_heap hres3 1
  have f1 := Lib.frozen_of_heap hres3 1
  have r2 := Lib.cell_of_heap hres3 2
  have f2 := Lib.frozen_of_heap hres3 2
  have r3 := Lib.cell_of_heap hres3 3
  have f3 := Lib.frozen_of_heap hres3 3
  have r4 := Lib.cell_of_heap hres3 4
  have f4 := Lib.frozen_of_heap hres3 4
  have hF := put_fin hres3 hB3 (by omega) [.int .i64 c.st, .int .i64 c.tag, .string x1, .slice ao c.ents.length ac, .string x2] rfl
  have hrow0 : (setAll w3 R 0 [.int .i64 c.st, .int .i64 c.tag, .string x1, .slice ao c.ents.length ac, .string x2]).ownsRow w.heap.size _ _ _ _ _ := own_low (ownsRow_heap hO fun q hq => setAll_other (by have := (World.ownsRow.lt hO q hq).1; omega) _ w3 0) hb0'.out.size
  simp only [setAll, Nat.reduceAdd, Nat.zero_add] at hF hrow0
  have hF' := Lib.hid hF
  have hW0 := Lib.hid hrow0
  clear hF hrow0 hres3 hB3 hb hO cW hx1 hx2
  go_wp2
  have hl := run_loadVar_row (P := Try.prog) _ R 33 33 _ _ _ hF'.out.1 Try.underlying33 rfl (by kernel_rfl)
  refine bodyPost_ret (res_two (fn := Try.f11) (p := 2) (u := 3) (ty := 33) rfl _ _ R _ rfl hl _ rfl) rfl ⟨.slice ao c.ents.length ac, ?_, ?_, hF'.out.2⟩
  · rw [← XX.out.1, ← XX.out.2]; rfl
  · exact hW0.out

set_option maxHeartbeats 8000000 in
set_option maxRecDepth 100000 in
theorem getLog_any (w : World) (v : Value) (l : Row) (h : BIn w v l) (hl : l.length ≤ 1099511627776) :
    Calls Try.prog 12 #[v] w fun e w' => ∃ nv ds, e = .returned (.tuple #[logV (got logS lg0 l).1 nv ds, .int .i64 ((got logS lg0 l).2 : Int)]) ∧ w'.ownsRow w.heap.size 9 1 nv (got logS lg0 l).1.com.names.length ((got logS lg0 l).1.com.names.flatMap encS) ∧ w'.ownsRow w.heap.size 3 1 ds (got logS lg0 l).1.nodes.length ((got logS lg0 l).1.nodes.flatMap encI) ∧ Below w.heap.size w w' := by
  obtain ⟨w0, hw0⟩ : ∃ x, w.alloc (.cells #[.int .i64 0, .int .i64 0, .int .i64 0, .string ⟨#[]⟩, .string ⟨#[]⟩, .string ⟨#[]⟩, .string ⟨#[]⟩, .string ⟨#[]⟩, .string ⟨#[]⟩, .slice none 0 0, .int .i64 0, .int .i64 0, .int .i64 0, .slice none 0 0] 39) = x := ⟨_, rfl⟩
  have hb0 : Below w.heap.size w w0 := by rw [← hw0]; exact (Below.refl _ _).alloc (Nat.le_refl _) _
  have hres0 : w0.heap[w.heap.size]? = some (.cells #[.int .i64 0, .int .i64 0, .int .i64 0, .string ⟨#[]⟩, .string ⟨#[]⟩, .string ⟨#[]⟩, .string ⟨#[]⟩, .string ⟨#[]⟩, .string ⟨#[]⟩, .slice none 0 0, .int .i64 0, .int .i64 0, .int .i64 0, .slice none 0 0] 39 (0, 0)) := by rw [← hw0]; exact heap_alloc_new w _
  have hlt := (Array.getElem?_eq_some_iff.1 hres0).1
  have cW := wholeLog_any w0 v l (h.kept hb0) hl
  obtain ⟨R, hRe⟩ : ∃ b, w.heap.size = b := ⟨_, rfl⟩
  rw [hRe] at hres0 hlt
  have hb0' := Lib.hid hb0
  have hres' := Lib.hid hres0
  obtain ⟨g, hg⟩ : ∃ g, got logS lg0 l = g := ⟨_, rfl⟩
  rw [hg] at cW ⊢
  obtain ⟨c, er⟩ := g
  obtain ⟨A, n, c0, rfl⟩ : ∃ A n c, v = .slice A n c := by obtain ⟨A, b, off, c, e, _⟩ := h; exact ⟨_, _, _, e⟩
  dsimp only at cW ⊢
  clear h hb0 hres0 hg
  go_enter Try.func12, Try.ntmps12
  go_wp2_with fail
  go_at_call 31
  refine cW.mono ?_
  rintro e w3 ⟨nv, ds, rfl, hO, hO2, hb⟩
  obtain ⟨ao, ac, rfl⟩ := own_form hO
  obtain ⟨bo, bc, rfl⟩ := own_form hO2
  obtain ⟨x1, hx1⟩ : ∃ x : ByteArray, (⟨c.com.book.toArray⟩ : ByteArray) = x := ⟨_, rfl⟩
  obtain ⟨x2, hx2⟩ : ∃ x : ByteArray, (⟨c.com.name.toArray⟩ : ByteArray) = x := ⟨_, rfl⟩
  obtain ⟨x3, hx3⟩ : ∃ x : ByteArray, (⟨c.com.data.toArray⟩ : ByteArray) = x := ⟨_, rfl⟩
  obtain ⟨x4, hx4⟩ : ∃ x : ByteArray, (⟨c.com.mat.toArray⟩ : ByteArray) = x := ⟨_, rfl⟩
  obtain ⟨x5, hx5⟩ : ∃ x : ByteArray, (⟨c.com.non.toArray⟩ : ByteArray) = x := ⟨_, rfl⟩
  obtain ⟨x6, hx6⟩ : ∃ x : ByteArray, (⟨c.com.tok.toArray⟩ : ByteArray) = x := ⟨_, rfl⟩
  unfold logV sv
  rw [hx1, hx2, hx3, hx4, hx5, hx6]
  have XX := Lib.hid (And.intro hx1 (And.intro hx2 (And.intro hx3 (And.intro hx4 (And.intro hx5 hx6)))))
  have hres3 := (hb.block R (by omega)).trans hres'.out
  have hB3 := hb0'.out.trans (hb.mono hb0'.out.size)
  have r0 := Lib.cell_of_heap hres3 0
  have f0 := Lib.frozen_of_heap hres3 0
  have r1 := Lib.cell_of_heap hres3 1
  have f1 := Lib.frozen_of_heap hres3 1
  have r2 := Lib.cell_of_heap hres3 2
  have f2 := Lib.frozen_of_heap hres3 2
  have r3 := Lib.cell_of_heap hres3 3
  have f3 := Lib.frozen_of_heap hres3 3
  have r4 := Lib.cell_of_heap hres3 4
  have f4 := Lib.frozen_of_heap hres3 4
  have r5 := Lib.cell_of_heap hres3 5
  have f5 := Lib.frozen_of_heap hres3 5
  have r6 := Lib.cell_of_heap hres3 6
  have f6 := Lib.frozen_of_heap hres3 6
  have r7 := Lib.cell_of_heap hres3 7
  have f7 := Lib.frozen_of_heap hres3 7
  have r8 := Lib.cell_of_heap hres3 8
  have f8 := Lib.frozen_of_heap hres3 8
  have r9 := Lib.cell_of_heap hres3 9
  have f9 := Lib.frozen_of_heap hres3 9
  have r10 := Lib.cell_of_heap hres3 10
  have f10 := Lib.frozen_of_heap hres3 10
  have r11 := Lib.cell_of_heap hres3 11
  have f11 := Lib.frozen_of_heap hres3 11
  have r12 := Lib.cell_of_heap hres3 12
  have f12 := Lib.frozen_of_heap hres3 12
  have r13 := Lib.cell_of_heap hres3 13
  have f13 := Lib.frozen_of_heap hres3 13
  have hF := put_fin hres3 hB3 (by omega) [.int .i64 c.term, .int .i64 c.kind, .int .i64 c.com.op, .string x1, .string x2, .string x3, .string x4, .string x5, .string x6, .slice ao c.com.names.length ac, .int .i64 c.com.pos, .int .i64 c.com.ses, .int .i64 c.com.seq, .slice bo c.nodes.length bc] rfl
  have hrow0 : (setAll w3 R 0 [.int .i64 c.term, .int .i64 c.kind, .int .i64 c.com.op, .string x1, .string x2, .string x3, .string x4, .string x5, .string x6, .slice ao c.com.names.length ac, .int .i64 c.com.pos, .int .i64 c.com.ses, .int .i64 c.com.seq, .slice bo c.nodes.length bc]).ownsRow w.heap.size _ _ _ _ _ := own_low (ownsRow_heap hO fun q hq => setAll_other (by have := (World.ownsRow.lt hO q hq).1; omega) _ w3 0) hb0'.out.size
  have hrow1 : (setAll w3 R 0 [.int .i64 c.term, .int .i64 c.kind, .int .i64 c.com.op, .string x1, .string x2, .string x3, .string x4, .string x5, .string x6, .slice ao c.com.names.length ac, .int .i64 c.com.pos, .int .i64 c.com.ses, .int .i64 c.com.seq, .slice bo c.nodes.length bc]).ownsRow w.heap.size _ _ _ _ _ := own_low (ownsRow_heap hO2 fun q hq => setAll_other (by have := (World.ownsRow.lt hO2 q hq).1; omega) _ w3 0) hb0'.out.size
  simp only [setAll, Nat.reduceAdd, Nat.zero_add] at hF hrow0 hrow1
  have hF' := Lib.hid hF
  have hW0 := Lib.hid hrow0
  have hW1 := Lib.hid hrow1
  clear hF hrow0 hrow1 hres3 hB3 hb hO hO2 cW hx1 hx2 hx3 hx4 hx5 hx6
  go_wp2
  have hl := run_loadVar_row (P := Try.prog) _ R 39 39 _ _ _ hF'.out.1 Try.underlying39 rfl (by kernel_rfl)
  refine bodyPost_ret (res_two (fn := Try.f12) (p := 2) (u := 3) (ty := 39) rfl _ _ R _ rfl hl _ rfl) rfl ⟨.slice ao c.com.names.length ac, .slice bo c.nodes.length bc, ?_, ?_, ?_, hF'.out.2⟩
  · rw [← XX.out.1, ← XX.out.2.1, ← XX.out.2.2.1, ← XX.out.2.2.2.1, ← XX.out.2.2.2.2.1, ← XX.out.2.2.2.2.2]; rfl
  · exact hW0.out
  · exact hW1.out
end Go.Proofs.Ytpngbfmbjldieaa.Ly
