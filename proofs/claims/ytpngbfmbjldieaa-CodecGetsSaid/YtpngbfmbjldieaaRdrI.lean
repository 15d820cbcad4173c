/-
  codec.GetCommand, GetReply, GetLog AT EVERY BYTES. (Written by tools/genrdri.py.)
-/
import Derived.Test.YtpngbfmbjldieaaRdrH
import Derived.Laws.ResultCell
set_option linter.unusedVariables false
namespace Go.Proofs.Ytpngbfmbjldieaa.Ly
open Go.Lib Go.RowKit
open Bo (Kp Row ownsRow_heap sv sv_data)
open Cd (St endS encS encI encE En Rep repS repV rep0 Com comS comV comC com0 Lg lg0 logS logV setAll setAll_heap setAll_other setAll_size setAll_kp setArr setArr_all)

theorem res_two {fn : Func} {p u : Tmp} {ty : TypeId} (h : fn.results = #[.cell p ty, .tmp u]) (tmps : Array Value) (w : World) (g : Nat) (cs : Array Value)
    (hp : tmps.getD p undef = .pointer (some ⟨g, 0, none⟩)) (hl : (loadVar ty ⟨g, 0, none⟩).run Try.prog w = .ok (.agg cs) w) (x : Value) (hx : tmps.getD u undef = x) :
    (results fn tmps).run Try.prog w = .ok (.tuple #[.agg cs, x]) w := by
  rw [results_cell_tmp h, hp, hx]
  simp [asAddr, Result.andThen, hl]
/-- a result stored whole, all else new -/
theorem put_fin {w W : World} {R : Nat} {rc : Array Value} {ty : TypeId} (hres : W.heap[R]? = some (.cells rc ty (0, 0))) (hB : Below w.heap.size w W) (hR : w.heap.size ≤ R) (vs : List Value) (hv : vs.length = rc.size) : (setAll W R 0 vs).heap[R]? = some (.cells vs.toArray ty (0, 0)) ∧ Below w.heap.size w (setAll W R 0 vs) := by
  have hk := setAll_kp (F := []) hR vs W 0 (Kp.of_below hB)
  exact ⟨by rw [← setArr_all hv]; exact setAll_heap vs W rc 0 hres, ⟨hk.os, hk.tape, hk.output, hk.size, fun k h => hk.block k h (by simp)⟩⟩
/-- what is read of all the bytes: the zero value beside an error -/
def got {α : Type} (get : St → α × St) (zero : α) (l : Row) : α × Nat := if endS (get (some (l, false))).2 = 0 then ((get (some (l, false))).1, 0) else (zero, endS (get (some (l, false))).2)

set_option maxHeartbeats 16000000 in
set_option maxRecDepth 100000 in
theorem wholeCom_any (w : World) (v : Value) (l : Row) (h : BIn w v l) (hl : l.length ≤ 1099511627776) :
    Calls Try.prog 27 #[v, .func (.func 28) #[] #[]] w fun e w' => ∃ nv, e = .returned (.tuple #[comV (got comS com0 l).1 nv, .int .i64 ((got comS com0 l).2 : Int)]) ∧ w'.ownsRow w.heap.size 9 1 nv (got comS com0 l).1.names.length ((got comS com0 l).1.names.flatMap encS) ∧ Below w.heap.size w w' := by
  obtain ⟨w0, hw0⟩ : ∃ x, w.alloc (.cells #[.int .i64 0, .string ⟨#[]⟩, .string ⟨#[]⟩, .string ⟨#[]⟩, .string ⟨#[]⟩, .string ⟨#[]⟩, .string ⟨#[]⟩, .slice none 0 0, .int .i64 0, .int .i64 0, .int .i64 0] 27) = x := ⟨_, rfl⟩
  have hb0 : Below w.heap.size w w0 := by rw [← hw0]; exact (Below.refl _ _).alloc (Nat.le_refl _) _
  have hres0 : w0.heap[w.heap.size]? = some (.cells #[.int .i64 0, .string ⟨#[]⟩, .string ⟨#[]⟩, .string ⟨#[]⟩, .string ⟨#[]⟩, .string ⟨#[]⟩, .string ⟨#[]⟩, .slice none 0 0, .int .i64 0, .int .i64 0, .int .i64 0] 27 (0, 0)) := by rw [← hw0]; exact heap_alloc_new w _
  have hlt := (Array.getElem?_eq_some_iff.1 hres0).1
  have cO := rOf_any w0 v l (h.kept hb0)
  obtain ⟨R, hRe⟩ : ∃ b, w.heap.size = b := ⟨_, rfl⟩
  obtain ⟨rb, hrb⟩ : ∃ b, w0.heap.size = b := ⟨_, rfl⟩
  rw [hRe] at hres0 hlt
  rw [hrb] at cO
  have hlt' : R < rb := by omega
  have hb0' := Lib.hid hb0
  have hres' := Lib.hid hres0
  obtain ⟨g, hg⟩ : ∃ g, got comS com0 l = g := ⟨_, rfl⟩
  rw [hg]
  unfold got at hg
  have hg' := Lib.hid hg
  obtain ⟨A, n, c0, rfl⟩ : ∃ A n c, v = .slice A n c := by obtain ⟨A, b, off, c, e, _⟩ := h; exact ⟨_, _, _, e⟩
  clear h hb0 hres0 hg
  go_enter Try.func27, Try.ntmps27
  go_wp2_with fail
  go_at_call 46
  refine cO.mono ?_
  rintro e w1 ⟨rfl, hR, hb1⟩
  have cG := rCommand_any w1 rb (some (l, false)) hR hl
  have hres1 := Lib.hid ((hb1.block R (by omega)).trans hres'.out)
  have hb1' := Lib.hid (hb0'.out.trans (show Below w.heap.size w0 w1 from hb1.mono (by omega)))
  have hs1 : rb < w1.heap.size := hR.lt
  obtain ⟨c, hc⟩ : ∃ c, (comS (some (l, false))).1 = c := ⟨_, rfl⟩
  obtain ⟨s3, hs3⟩ : ∃ c, (comS (some (l, false))).2 = c := ⟨_, rfl⟩
  rw [hc, hs3] at cG hg'
  clear hR hb1 cO hc hs3
  go_wp2_with fail
  go_at_call 28
  refine cG.mono ?_
  rintro e w2 ⟨nv, rfl, hO, hR, hK⟩
  obtain ⟨ao, ac, rfl⟩ := own_form hO
  obtain ⟨x1, hx1⟩ : ∃ x : ByteArray, (⟨c.book.toArray⟩ : ByteArray) = x := ⟨_, rfl⟩
  obtain ⟨x2, hx2⟩ : ∃ x : ByteArray, (⟨c.name.toArray⟩ : ByteArray) = x := ⟨_, rfl⟩
  obtain ⟨x3, hx3⟩ : ∃ x : ByteArray, (⟨c.data.toArray⟩ : ByteArray) = x := ⟨_, rfl⟩
  obtain ⟨x4, hx4⟩ : ∃ x : ByteArray, (⟨c.mat.toArray⟩ : ByteArray) = x := ⟨_, rfl⟩
  obtain ⟨x5, hx5⟩ : ∃ x : ByteArray, (⟨c.non.toArray⟩ : ByteArray) = x := ⟨_, rfl⟩
  obtain ⟨x6, hx6⟩ : ∃ x : ByteArray, (⟨c.tok.toArray⟩ : ByteArray) = x := ⟨_, rfl⟩
  unfold comV comC sv
  rw [hx1, hx2, hx3, hx4, hx5, hx6]
  have XX := Lib.hid (And.intro hx1 (And.intro hx2 (And.intro hx3 (And.intro hx4 (And.intro hx5 hx6)))))
  have hbX : Below w2.heap.size w2 (w2.alloc (.cells #[.int .i64 c.op, .string x1, .string x2, .string x3, .string x4, .string x5, .string x6, .slice ao c.names.length ac, .int .i64 c.pos, .int .i64 c.ses, .int .i64 c.seq] 27)) := (Below.refl _ _).alloc (Nat.le_refl _) _
  have hboxX : (w2.alloc (.cells #[.int .i64 c.op, .string x1, .string x2, .string x3, .string x4, .string x5, .string x6, .slice ao c.names.length ac, .int .i64 c.pos, .int .i64 c.ses, .int .i64 c.seq] 27)).heap[w2.heap.size]? = some (.cells #[.int .i64 c.op, .string x1, .string x2, .string x3, .string x4, .string x5, .string x6, .slice ao c.names.length ac, .int .i64 c.pos, .int .i64 c.ses, .int .i64 c.seq] 27 (0, 0)) := heap_alloc_new w2 _
  have hresX := (hbX.block R (by have := hK.size; omega)).trans ((hK.block R (by omega) (by simp; omega)).trans hres1.out)
  have hBX := (hK.below hb1'.out (fun k hk => by simp at hk; omega) (by omega)).trans (hbX.mono (by have := hK.size; omega))
  have hOX := ownsRow_heap hO fun g hg => hbX.block g (World.ownsRow.lt hO g hg).2
  have cE := rEndS_any _ rb s3 (hR.kept hbX)
  have hsz : rb < w2.heap.size := Nat.lt_of_lt_of_le hs1 hK.size
  obtain ⟨CB, hCB⟩ : ∃ b, w2.heap.size = b := ⟨_, rfl⟩
  rw [hCB] at hboxX
  obtain ⟨er, her⟩ : ∃ x, endS s3 = x := ⟨_, rfl⟩
  rw [her] at cE hg'
  have hB1 : R + 1 ≤ w1.heap.size := by omega
  clear hbX hO hR hK cG her hx1 hx2 hx3 hx4 hx5 hx6
  go_wp2_with fail
  go_at_call 47
  refine cE.mono ?_
  rintro e w3 ⟨rfl, e3⟩
  rw [← e3] at hboxX hresX hBX hOX
  clear e3 cE
  by_cases h0 : er = 0
  · have q1 : ((er : Int) == 0) = true := by rw [h0]; rfl
    have q2 : ((er : Int) != 0) = false := by rw [h0]; rfl
    have q3 : (er : Int) = 0 := by omega
    have hE := hg'.out
    rw [if_pos h0] at hE
    have hE' := Lib.hid hE.symm
    have r0 := Lib.cell_of_heap hresX 0
    have f0 := Lib.frozen_of_heap hresX 0
    have r1 := Lib.cell_of_heap hresX 1
    have f1 := Lib.frozen_of_heap hresX 1
    have r2 := Lib.cell_of_heap hresX 2
    have f2 := Lib.frozen_of_heap hresX 2
    have r3 := Lib.cell_of_heap hresX 3
    have f3 := Lib.frozen_of_heap hresX 3
    have r4 := Lib.cell_of_heap hresX 4
    have f4 := Lib.frozen_of_heap hresX 4
    have r5 := Lib.cell_of_heap hresX 5
    have f5 := Lib.frozen_of_heap hresX 5
    have r6 := Lib.cell_of_heap hresX 6
    have f6 := Lib.frozen_of_heap hresX 6
    have r7 := Lib.cell_of_heap hresX 7
    have f7 := Lib.frozen_of_heap hresX 7
    have r8 := Lib.cell_of_heap hresX 8
    have f8 := Lib.frozen_of_heap hresX 8
    have r9 := Lib.cell_of_heap hresX 9
    have f9 := Lib.frozen_of_heap hresX 9
    have r10 := Lib.cell_of_heap hresX 10
    have f10 := Lib.frozen_of_heap hresX 10
    have b0 := Lib.cell_of_heap hboxX 0
    have d0 := Lib.frozen_of_heap hboxX 0
    have b1 := Lib.cell_of_heap hboxX 1
    have d1 := Lib.frozen_of_heap hboxX 1
    have b2 := Lib.cell_of_heap hboxX 2
    have d2 := Lib.frozen_of_heap hboxX 2
    have b3 := Lib.cell_of_heap hboxX 3
    have d3 := Lib.frozen_of_heap hboxX 3
    have b4 := Lib.cell_of_heap hboxX 4
    have d4 := Lib.frozen_of_heap hboxX 4
    have b5 := Lib.cell_of_heap hboxX 5
    have d5 := Lib.frozen_of_heap hboxX 5
    have b6 := Lib.cell_of_heap hboxX 6
    have d6 := Lib.frozen_of_heap hboxX 6
    have b7 := Lib.cell_of_heap hboxX 7
    have d7 := Lib.frozen_of_heap hboxX 7
    have b8 := Lib.cell_of_heap hboxX 8
    have d8 := Lib.frozen_of_heap hboxX 8
    have b9 := Lib.cell_of_heap hboxX 9
    have d9 := Lib.frozen_of_heap hboxX 9
    have b10 := Lib.cell_of_heap hboxX 10
    have d10 := Lib.frozen_of_heap hboxX 10
    have hF := put_fin hresX hBX (by omega) [.int .i64 c.op, .string x1, .string x2, .string x3, .string x4, .string x5, .string x6, .slice ao c.names.length ac, .int .i64 c.pos, .int .i64 c.ses, .int .i64 c.seq] rfl
    have hrow0 : (setAll w3 R 0 [.int .i64 c.op, .string x1, .string x2, .string x3, .string x4, .string x5, .string x6, .slice ao c.names.length ac, .int .i64 c.pos, .int .i64 c.ses, .int .i64 c.seq]).ownsRow w.heap.size _ _ _ _ _ := own_low (ownsRow_heap hOX fun q hq => setAll_other (by have := (World.ownsRow.lt hOX q hq).1; omega) _ w3 0) (by omega : w.heap.size ≤ w1.heap.size)
    simp only [setAll, Nat.reduceAdd, Nat.zero_add] at hF hrow0
    have hF' := Lib.hid hF
    have hW0 := Lib.hid hrow0
    clear hF hrow0 hE hresX hboxX hBX hOX h0
    go_wp2
    have hl := run_loadVar_row (P := Try.prog) _ R 27 27 _ _ _ hF'.out.1 Try.underlying27 rfl (by kernel_rfl)
    refine bodyPost_ret (res_two (fn := Try.f27) (p := 4) (u := 5) (ty := 27) rfl _ _ R _ rfl hl _ rfl) rfl ⟨.slice ao c.names.length ac, ?_, ?_, hF'.out.2⟩
    · rw [hE'.out, ← XX.out.1, ← XX.out.2.1, ← XX.out.2.2.1, ← XX.out.2.2.2.1, ← XX.out.2.2.2.2.1, ← XX.out.2.2.2.2.2]; rfl
    · rw [hE'.out]; exact hW0.out
  · have q1 : ((er : Int) == 0) = false := beq_eq_false_iff_ne.2 (by omega)
    have q2 : ((er : Int) != 0) = true := by rw [bne, q1]; rfl
    have q3 : ¬ (er : Int) = 0 := by omega
    have hE := hg'.out
    rw [if_neg h0] at hE
    have hE' := Lib.hid hE.symm
    clear h0
    go_upto_region 6 with fail
    obtain ⟨wN, hwN⟩ : ∃ x, w3.alloc (.cells #[.int .i64 0, .string ⟨#[]⟩, .string ⟨#[]⟩, .string ⟨#[]⟩, .string ⟨#[]⟩, .string ⟨#[]⟩, .string ⟨#[]⟩, .slice none 0 0, .int .i64 0, .int .i64 0, .int .i64 0] 27) = x := ⟨_, rfl⟩
    have hbN : Below w3.heap.size w3 wN := by rw [← hwN]; exact (Below.refl _ _).alloc (Nat.le_refl _) _
    have hboxN : wN.heap[w3.heap.size]? = some (.cells #[.int .i64 0, .string ⟨#[]⟩, .string ⟨#[]⟩, .string ⟨#[]⟩, .string ⟨#[]⟩, .string ⟨#[]⟩, .string ⟨#[]⟩, .slice none 0 0, .int .i64 0, .int .i64 0, .int .i64 0] 27 (0, 0)) := by rw [← hwN]; exact heap_alloc_new w3 _
    have hresN := (hbN.block R (Array.getElem?_eq_some_iff.1 hresX).1).trans hresX
    have hBN := hBX.trans (hbN.mono hBX.size)
    rw [hwN]
    clear hwN
    have r0 := Lib.cell_of_heap hresN 0
    have f0 := Lib.frozen_of_heap hresN 0
    have r1 := Lib.cell_of_heap hresN 1
    have f1 := Lib.frozen_of_heap hresN 1
    have r2 := Lib.cell_of_heap hresN 2
    have f2 := Lib.frozen_of_heap hresN 2
    have r3 := Lib.cell_of_heap hresN 3
    have f3 := Lib.frozen_of_heap hresN 3
    have r4 := Lib.cell_of_heap hresN 4
    have f4 := Lib.frozen_of_heap hresN 4
    have r5 := Lib.cell_of_heap hresN 5
    have f5 := Lib.frozen_of_heap hresN 5
    have r6 := Lib.cell_of_heap hresN 6
    have f6 := Lib.frozen_of_heap hresN 6
    have r7 := Lib.cell_of_heap hresN 7
    have f7 := Lib.frozen_of_heap hresN 7
    have r8 := Lib.cell_of_heap hresN 8
    have f8 := Lib.frozen_of_heap hresN 8
    have r9 := Lib.cell_of_heap hresN 9
    have f9 := Lib.frozen_of_heap hresN 9
    have r10 := Lib.cell_of_heap hresN 10
    have f10 := Lib.frozen_of_heap hresN 10
    have b0 := Lib.cell_of_heap hboxN 0
    have d0 := Lib.frozen_of_heap hboxN 0
    have b1 := Lib.cell_of_heap hboxN 1
    have d1 := Lib.frozen_of_heap hboxN 1
    have b2 := Lib.cell_of_heap hboxN 2
    have d2 := Lib.frozen_of_heap hboxN 2
    have b3 := Lib.cell_of_heap hboxN 3
    have d3 := Lib.frozen_of_heap hboxN 3
    have b4 := Lib.cell_of_heap hboxN 4
    have d4 := Lib.frozen_of_heap hboxN 4
    have b5 := Lib.cell_of_heap hboxN 5
    have d5 := Lib.frozen_of_heap hboxN 5
    have b6 := Lib.cell_of_heap hboxN 6
    have d6 := Lib.frozen_of_heap hboxN 6
    have b7 := Lib.cell_of_heap hboxN 7
    have d7 := Lib.frozen_of_heap hboxN 7
    have b8 := Lib.cell_of_heap hboxN 8
    have d8 := Lib.frozen_of_heap hboxN 8
    have b9 := Lib.cell_of_heap hboxN 9
    have d9 := Lib.frozen_of_heap hboxN 9
    have b10 := Lib.cell_of_heap hboxN 10
    have d10 := Lib.frozen_of_heap hboxN 10
    have hF := put_fin hresN hBN (by omega) [.int .i64 0, .string ⟨#[]⟩, .string ⟨#[]⟩, .string ⟨#[]⟩, .string ⟨#[]⟩, .string ⟨#[]⟩, .string ⟨#[]⟩, .slice none 0 0, .int .i64 0, .int .i64 0, .int .i64 0] rfl
    simp only [setAll, Nat.reduceAdd, Nat.zero_add] at hF
    have hF' := Lib.hid hF
    clear hF hE hresX hboxX hBX hOX hbN hboxN hresN hBN
    go_wp2
    have hl := run_loadVar_row (P := Try.prog) _ R 27 27 _ _ _ hF'.out.1 Try.underlying27 rfl (by kernel_rfl)
    refine bodyPost_ret (res_two (fn := Try.f27) (p := 4) (u := 5) (ty := 27) rfl _ _ R _ rfl hl _ rfl) rfl ⟨.slice none 0 0, ?_, ?_, hF'.out.2⟩
    · rw [hE'.out]; rfl
    · rw [hE'.out]; exact World.ownsRow_nil _ _ _ _

set_option maxHeartbeats 16000000 in
set_option maxRecDepth 100000 in
theorem wholeRep_any (w : World) (v : Value) (l : Row) (h : BIn w v l) (hl : l.length ≤ 1099511627776) :
    Calls Try.prog 29 #[v, .func (.func 30) #[] #[]] w fun e w' => ∃ nv, e = .returned (.tuple #[repV (got repS rep0 l).1 nv, .int .i64 ((got repS rep0 l).2 : Int)]) ∧ w'.ownsRow w.heap.size 76 4 nv (got repS rep0 l).1.ents.length ((got repS rep0 l).1.ents.flatMap encE) ∧ Below w.heap.size w w' := by
  obtain ⟨w0, hw0⟩ : ∃ x, w.alloc (.cells #[.int .i64 0, .int .i64 0, .string ⟨#[]⟩, .slice none 0 0, .string ⟨#[]⟩] 33) = x := ⟨_, rfl⟩
  have hb0 : Below w.heap.size w w0 := by rw [← hw0]; exact (Below.refl _ _).alloc (Nat.le_refl _) _
  have hres0 : w0.heap[w.heap.size]? = some (.cells #[.int .i64 0, .int .i64 0, .string ⟨#[]⟩, .slice none 0 0, .string ⟨#[]⟩] 33 (0, 0)) := by rw [← hw0]; exact heap_alloc_new w _
  have hlt := (Array.getElem?_eq_some_iff.1 hres0).1
  have cO := rOf_any w0 v l (h.kept hb0)
  obtain ⟨R, hRe⟩ : ∃ b, w.heap.size = b := ⟨_, rfl⟩
  obtain ⟨rb, hrb⟩ : ∃ b, w0.heap.size = b := ⟨_, rfl⟩
  rw [hRe] at hres0 hlt
  rw [hrb] at cO
  have hlt' : R < rb := by omega
  have hb0' := Lib.hid hb0
  have hres' := Lib.hid hres0
  obtain ⟨g, hg⟩ : ∃ g, got repS rep0 l = g := ⟨_, rfl⟩
  rw [hg]
  unfold got at hg
  have hg' := Lib.hid hg
  obtain ⟨A, n, c0, rfl⟩ : ∃ A n c, v = .slice A n c := by obtain ⟨A, b, off, c, e, _⟩ := h; exact ⟨_, _, _, e⟩
  clear h hb0 hres0 hg
  go_enter Try.func29, Try.ntmps29
  go_wp2_with fail
  go_at_call 46
  refine cO.mono ?_
  rintro e w1 ⟨rfl, hR, hb1⟩
  have cG := rGetReply_any w1 rb (some (l, false)) hR hl
  have hres1 := Lib.hid ((hb1.block R (by omega)).trans hres'.out)
  have hb1' := Lib.hid (hb0'.out.trans (show Below w.heap.size w0 w1 from hb1.mono (by omega)))
  have hs1 : rb < w1.heap.size := hR.lt
  obtain ⟨c, hc⟩ : ∃ c, (repS (some (l, false))).1 = c := ⟨_, rfl⟩
  obtain ⟨s3, hs3⟩ : ∃ c, (repS (some (l, false))).2 = c := ⟨_, rfl⟩
  rw [hc, hs3] at cG hg'
  clear hR hb1 cO hc hs3
  go_wp2_with fail
  go_at_call 30
  refine cG.mono ?_
  rintro e w2 ⟨nv, rfl, hO, hR, hK⟩
  obtain ⟨ao, ac, rfl⟩ := own_form hO
  obtain ⟨x1, hx1⟩ : ∃ x : ByteArray, (⟨c.data.toArray⟩ : ByteArray) = x := ⟨_, rfl⟩
  obtain ⟨x2, hx2⟩ : ∃ x : ByteArray, (⟨c.tok.toArray⟩ : ByteArray) = x := ⟨_, rfl⟩
  unfold repV sv
  rw [hx1, hx2]
  have XX := Lib.hid (And.intro hx1 hx2)
  have hbX : Below w2.heap.size w2 (w2.alloc (.cells #[.int .i64 c.st, .int .i64 c.tag, .string x1, .slice ao c.ents.length ac, .string x2] 33)) := (Below.refl _ _).alloc (Nat.le_refl _) _
  have hboxX : (w2.alloc (.cells #[.int .i64 c.st, .int .i64 c.tag, .string x1, .slice ao c.ents.length ac, .string x2] 33)).heap[w2.heap.size]? = some (.cells #[.int .i64 c.st, .int .i64 c.tag, .string x1, .slice ao c.ents.length ac, .string x2] 33 (0, 0)) := heap_alloc_new w2 _
  have hresX := (hbX.block R (by have := hK.size; omega)).trans ((hK.block R (by omega) (by simp; omega)).trans hres1.out)
  have hBX := (hK.below hb1'.out (fun k hk => by simp at hk; omega) (by omega)).trans (hbX.mono (by have := hK.size; omega))
  have hOX := ownsRow_heap hO fun g hg => hbX.block g (World.ownsRow.lt hO g hg).2
  have cE := rEndS_any _ rb s3 (hR.kept hbX)
  have hsz : rb < w2.heap.size := Nat.lt_of_lt_of_le hs1 hK.size
  obtain ⟨CB, hCB⟩ : ∃ b, w2.heap.size = b := ⟨_, rfl⟩
  rw [hCB] at hboxX
  obtain ⟨er, her⟩ : ∃ x, endS s3 = x := ⟨_, rfl⟩
  rw [her] at cE hg'
  have hB1 : R + 1 ≤ w1.heap.size := by omega
  clear hbX hO hR hK cG her hx1 hx2
  go_wp2_with fail
  go_at_call 47
  refine cE.mono ?_
  rintro e w3 ⟨rfl, e3⟩
  rw [← e3] at hboxX hresX hBX hOX
  clear e3 cE
  by_cases h0 : er = 0
  · have q1 : ((er : Int) == 0) = true := by rw [h0]; rfl
    have q2 : ((er : Int) != 0) = false := by rw [h0]; rfl
    have q3 : (er : Int) = 0 := by omega
    have hE := hg'.out
    rw [if_pos h0] at hE
    have hE' := Lib.hid hE.symm
    have r0 := Lib.cell_of_heap hresX 0
    have f0 := Lib.frozen_of_heap hresX 0
    have r1 := Lib.cell_of_heap hresX 1
    have f1 := Lib.frozen_of_heap hresX 1
    have r2 := Lib.cell_of_heap hresX 2
    have f2 := Lib.frozen_of_heap hresX 2
    have r3 := Lib.cell_of_heap hresX 3
    have f3 := Lib.frozen_of_heap hresX 3
    have r4 := Lib.cell_of_heap hresX 4
    have f4 := Lib.frozen_of_heap hresX 4
    have b0 := Lib.cell_of_heap hboxX 0
    have d0 := Lib.frozen_of_heap hboxX 0
    have b1 := Lib.cell_of_heap hboxX 1
    have d1 := Lib.frozen_of_heap hboxX 1
    have b2 := Lib.cell_of_heap hboxX 2
    have d2 := Lib.frozen_of_heap hboxX 2
    have b3 := Lib.cell_of_heap hboxX 3
    have d3 := Lib.frozen_of_heap hboxX 3
    have b4 := Lib.cell_of_heap hboxX 4
    have d4 := Lib.frozen_of_heap hboxX 4
    have hF := put_fin hresX hBX (by omega) [.int .i64 c.st, .int .i64 c.tag, .string x1, .slice ao c.ents.length ac, .string x2] rfl
    have hrow0 : (setAll w3 R 0 [.int .i64 c.st, .int .i64 c.tag, .string x1, .slice ao c.ents.length ac, .string x2]).ownsRow w.heap.size _ _ _ _ _ := own_low (ownsRow_heap hOX fun q hq => setAll_other (by have := (World.ownsRow.lt hOX q hq).1; omega) _ w3 0) (by omega : w.heap.size ≤ w1.heap.size)
    simp only [setAll, Nat.reduceAdd, Nat.zero_add] at hF hrow0
    have hF' := Lib.hid hF
    have hW0 := Lib.hid hrow0
    clear hF hrow0 hE hresX hboxX hBX hOX h0
    go_wp2
    have hl := run_loadVar_row (P := Try.prog) _ R 33 33 _ _ _ hF'.out.1 Try.underlying33 rfl (by kernel_rfl)
    refine bodyPost_ret (res_two (fn := Try.f29) (p := 4) (u := 5) (ty := 33) rfl _ _ R _ rfl hl _ rfl) rfl ⟨.slice ao c.ents.length ac, ?_, ?_, hF'.out.2⟩
    · rw [hE'.out, ← XX.out.1, ← XX.out.2]; rfl
    · rw [hE'.out]; exact hW0.out
  · have q1 : ((er : Int) == 0) = false := beq_eq_false_iff_ne.2 (by omega)
    have q2 : ((er : Int) != 0) = true := by rw [bne, q1]; rfl
    have q3 : ¬ (er : Int) = 0 := by omega
    have hE := hg'.out
    rw [if_neg h0] at hE
    have hE' := Lib.hid hE.symm
    clear h0
    go_upto_region 6 with fail
    obtain ⟨wN, hwN⟩ : ∃ x, w3.alloc (.cells #[.int .i64 0, .int .i64 0, .string ⟨#[]⟩, .slice none 0 0, .string ⟨#[]⟩] 33) = x := ⟨_, rfl⟩
    have hbN : Below w3.heap.size w3 wN := by rw [← hwN]; exact (Below.refl _ _).alloc (Nat.le_refl _) _
    have hboxN : wN.heap[w3.heap.size]? = some (.cells #[.int .i64 0, .int .i64 0, .string ⟨#[]⟩, .slice none 0 0, .string ⟨#[]⟩] 33 (0, 0)) := by rw [← hwN]; exact heap_alloc_new w3 _
    have hresN := (hbN.block R (Array.getElem?_eq_some_iff.1 hresX).1).trans hresX
    have hBN := hBX.trans (hbN.mono hBX.size)
    rw [hwN]
    clear hwN
    have r0 := Lib.cell_of_heap hresN 0
    have f0 := Lib.frozen_of_heap hresN 0
    have r1 := Lib.cell_of_heap hresN 1
    have f1 := Lib.frozen_of_heap hresN 1
    have r2 := Lib.cell_of_heap hresN 2
    have f2 := Lib.frozen_of_heap hresN 2
    have r3 := Lib.cell_of_heap hresN 3
    have f3 := Lib.frozen_of_heap hresN 3
    have r4 := Lib.cell_of_heap hresN 4
    have f4 := Lib.frozen_of_heap hresN 4
    have b0 := Lib.cell_of_heap hboxN 0
    have d0 := Lib.frozen_of_heap hboxN 0
    have b1 := Lib.cell_of_heap hboxN 1
    have d1 := Lib.frozen_of_heap hboxN 1
    have b2 := Lib.cell_of_heap hboxN 2
    have d2 := Lib.frozen_of_heap hboxN 2
    have b3 := Lib.cell_of_heap hboxN 3
    have d3 := Lib.frozen_of_heap hboxN 3
    have b4 := Lib.cell_of_heap hboxN 4
    have d4 := Lib.frozen_of_heap hboxN 4
    have hF := put_fin hresN hBN (by omega) [.int .i64 0, .int .i64 0, .string ⟨#[]⟩, .slice none 0 0, .string ⟨#[]⟩] rfl
    simp only [setAll, Nat.reduceAdd, Nat.zero_add] at hF
    have hF' := Lib.hid hF
    clear hF hE hresX hboxX hBX hOX hbN hboxN hresN hBN
    go_wp2
    have hl := run_loadVar_row (P := Try.prog) _ R 33 33 _ _ _ hF'.out.1 Try.underlying33 rfl (by kernel_rfl)
    refine bodyPost_ret (res_two (fn := Try.f29) (p := 4) (u := 5) (ty := 33) rfl _ _ R _ rfl hl _ rfl) rfl ⟨.slice none 0 0, ?_, ?_, hF'.out.2⟩
    · rw [hE'.out]; rfl
    · rw [hE'.out]; exact World.ownsRow_nil _ _ _ _

set_option maxHeartbeats 16000000 in
set_option maxRecDepth 100000 in
theorem wholeLog_any (w : World) (v : Value) (l : Row) (h : BIn w v l) (hl : l.length ≤ 1099511627776) :
    Calls Try.prog 31 #[v, .func (.func 32) #[] #[]] w fun e w' => ∃ nv ds, e = .returned (.tuple #[logV (got logS lg0 l).1 nv ds, .int .i64 ((got logS lg0 l).2 : Int)]) ∧ w'.ownsRow w.heap.size 9 1 nv (got logS lg0 l).1.com.names.length ((got logS lg0 l).1.com.names.flatMap encS) ∧ w'.ownsRow w.heap.size 3 1 ds (got logS lg0 l).1.nodes.length ((got logS lg0 l).1.nodes.flatMap encI) ∧ Below w.heap.size w w' := by
  obtain ⟨w0, hw0⟩ : ∃ x, w.alloc (.cells #[.int .i64 0, .int .i64 0, .int .i64 0, .string ⟨#[]⟩, .string ⟨#[]⟩, .string ⟨#[]⟩, .string ⟨#[]⟩, .string ⟨#[]⟩, .string ⟨#[]⟩, .slice none 0 0, .int .i64 0, .int .i64 0, .int .i64 0, .slice none 0 0] 39) = x := ⟨_, rfl⟩
  have hb0 : Below w.heap.size w w0 := by rw [← hw0]; exact (Below.refl _ _).alloc (Nat.le_refl _) _
  have hres0 : w0.heap[w.heap.size]? = some (.cells #[.int .i64 0, .int .i64 0, .int .i64 0, .string ⟨#[]⟩, .string ⟨#[]⟩, .string ⟨#[]⟩, .string ⟨#[]⟩, .string ⟨#[]⟩, .string ⟨#[]⟩, .slice none 0 0, .int .i64 0, .int .i64 0, .int .i64 0, .slice none 0 0] 39 (0, 0)) := by rw [← hw0]; exact heap_alloc_new w _
  have hlt := (Array.getElem?_eq_some_iff.1 hres0).1
  have cO := rOf_any w0 v l (h.kept hb0)
  obtain ⟨R, hRe⟩ : ∃ b, w.heap.size = b := ⟨_, rfl⟩
  obtain ⟨rb, hrb⟩ : ∃ b, w0.heap.size = b := ⟨_, rfl⟩
  rw [hRe] at hres0 hlt
  rw [hrb] at cO
  have hlt' : R < rb := by omega
  have hb0' := Lib.hid hb0
  have hres' := Lib.hid hres0
  obtain ⟨g, hg⟩ : ∃ g, got logS lg0 l = g := ⟨_, rfl⟩
  rw [hg]
  unfold got at hg
  have hg' := Lib.hid hg
  obtain ⟨A, n, c0, rfl⟩ : ∃ A n c, v = .slice A n c := by obtain ⟨A, b, off, c, e, _⟩ := h; exact ⟨_, _, _, e⟩
  clear h hb0 hres0 hg
  go_enter Try.func31, Try.ntmps31
  go_wp2_with fail
  go_at_call 46
  refine cO.mono ?_
  rintro e w1 ⟨rfl, hR, hb1⟩
  have cG := rLog_any w1 rb (some (l, false)) hR hl
  have hres1 := Lib.hid ((hb1.block R (by omega)).trans hres'.out)
  have hb1' := Lib.hid (hb0'.out.trans (show Below w.heap.size w0 w1 from hb1.mono (by omega)))
  have hs1 : rb < w1.heap.size := hR.lt
  obtain ⟨c, hc⟩ : ∃ c, (logS (some (l, false))).1 = c := ⟨_, rfl⟩
  obtain ⟨s3, hs3⟩ : ∃ c, (logS (some (l, false))).2 = c := ⟨_, rfl⟩
  rw [hc, hs3] at cG hg'
  clear hR hb1 cO hc hs3
  go_wp2_with fail
  go_at_call 32
  refine cG.mono ?_
  rintro e w2 ⟨nv, ds, rfl, hO, hO2, hR, hK⟩
  obtain ⟨ao, ac, rfl⟩ := own_form hO
  obtain ⟨bo, bc, rfl⟩ := own_form hO2
  obtain ⟨x1, hx1⟩ : ∃ x : ByteArray, (⟨c.com.book.toArray⟩ : ByteArray) = x := ⟨_, rfl⟩
  obtain ⟨x2, hx2⟩ : ∃ x : ByteArray, (⟨c.com.name.toArray⟩ : ByteArray) = x := ⟨_, rfl⟩
  obtain ⟨x3, hx3⟩ : ∃ x : ByteArray, (⟨c.com.data.toArray⟩ : ByteArray) = x := ⟨_, rfl⟩
  obtain ⟨x4, hx4⟩ : ∃ x : ByteArray, (⟨c.com.mat.toArray⟩ : ByteArray) = x := ⟨_, rfl⟩
  obtain ⟨x5, hx5⟩ : ∃ x : ByteArray, (⟨c.com.non.toArray⟩ : ByteArray) = x := ⟨_, rfl⟩
  obtain ⟨x6, hx6⟩ : ∃ x : ByteArray, (⟨c.com.tok.toArray⟩ : ByteArray) = x := ⟨_, rfl⟩
  unfold logV sv
  rw [hx1, hx2, hx3, hx4, hx5, hx6]
  have XX := Lib.hid (And.intro hx1 (And.intro hx2 (And.intro hx3 (And.intro hx4 (And.intro hx5 hx6)))))
  have hbX : Below w2.heap.size w2 (w2.alloc (.cells #[.int .i64 c.term, .int .i64 c.kind, .int .i64 c.com.op, .string x1, .string x2, .string x3, .string x4, .string x5, .string x6, .slice ao c.com.names.length ac, .int .i64 c.com.pos, .int .i64 c.com.ses, .int .i64 c.com.seq, .slice bo c.nodes.length bc] 39)) := (Below.refl _ _).alloc (Nat.le_refl _) _
  have hboxX : (w2.alloc (.cells #[.int .i64 c.term, .int .i64 c.kind, .int .i64 c.com.op, .string x1, .string x2, .string x3, .string x4, .string x5, .string x6, .slice ao c.com.names.length ac, .int .i64 c.com.pos, .int .i64 c.com.ses, .int .i64 c.com.seq, .slice bo c.nodes.length bc] 39)).heap[w2.heap.size]? = some (.cells #[.int .i64 c.term, .int .i64 c.kind, .int .i64 c.com.op, .string x1, .string x2, .string x3, .string x4, .string x5, .string x6, .slice ao c.com.names.length ac, .int .i64 c.com.pos, .int .i64 c.com.ses, .int .i64 c.com.seq, .slice bo c.nodes.length bc] 39 (0, 0)) := heap_alloc_new w2 _
  have hresX := (hbX.block R (by have := hK.size; omega)).trans ((hK.block R (by omega) (by simp; omega)).trans hres1.out)
  have hBX := (hK.below hb1'.out (fun k hk => by simp at hk; omega) (by omega)).trans (hbX.mono (by have := hK.size; omega))
  have hOX := ownsRow_heap hO fun g hg => hbX.block g (World.ownsRow.lt hO g hg).2
  have hO2X := ownsRow_heap hO2 fun g hg => hbX.block g (World.ownsRow.lt hO2 g hg).2
  have cE := rEndS_any _ rb s3 (hR.kept hbX)
  have hsz : rb < w2.heap.size := Nat.lt_of_lt_of_le hs1 hK.size
  obtain ⟨CB, hCB⟩ : ∃ b, w2.heap.size = b := ⟨_, rfl⟩
  rw [hCB] at hboxX
  obtain ⟨er, her⟩ : ∃ x, endS s3 = x := ⟨_, rfl⟩
  rw [her] at cE hg'
  have hB1 : R + 1 ≤ w1.heap.size := by omega
  clear hbX hO hO2 hR hK cG her hx1 hx2 hx3 hx4 hx5 hx6
  go_wp2_with fail
  go_at_call 47
  refine cE.mono ?_
  rintro e w3 ⟨rfl, e3⟩
  rw [← e3] at hboxX hresX hBX hOX hO2X
  clear e3 cE
  by_cases h0 : er = 0
  · have q1 : ((er : Int) == 0) = true := by rw [h0]; rfl
    have q2 : ((er : Int) != 0) = false := by rw [h0]; rfl
    have q3 : (er : Int) = 0 := by omega
    have hE := hg'.out
    rw [if_pos h0] at hE
    have hE' := Lib.hid hE.symm
    have r0 := Lib.cell_of_heap hresX 0
    have f0 := Lib.frozen_of_heap hresX 0
    have r1 := Lib.cell_of_heap hresX 1
    have f1 := Lib.frozen_of_heap hresX 1
    have r2 := Lib.cell_of_heap hresX 2
    have f2 := Lib.frozen_of_heap hresX 2
    have r3 := Lib.cell_of_heap hresX 3
    have f3 := Lib.frozen_of_heap hresX 3
    have r4 := Lib.cell_of_heap hresX 4
    have f4 := Lib.frozen_of_heap hresX 4
    have r5 := Lib.cell_of_heap hresX 5
    have f5 := Lib.frozen_of_heap hresX 5
    have r6 := Lib.cell_of_heap hresX 6
    have f6 := Lib.frozen_of_heap hresX 6
    have r7 := Lib.cell_of_heap hresX 7
    have f7 := Lib.frozen_of_heap hresX 7
    have r8 := Lib.cell_of_heap hresX 8
    have f8 := Lib.frozen_of_heap hresX 8
    have r9 := Lib.cell_of_heap hresX 9
    have f9 := Lib.frozen_of_heap hresX 9
    have r10 := Lib.cell_of_heap hresX 10
    have f10 := Lib.frozen_of_heap hresX 10
    have r11 := Lib.cell_of_heap hresX 11
    have f11 := Lib.frozen_of_heap hresX 11
    have r12 := Lib.cell_of_heap hresX 12
    have f12 := Lib.frozen_of_heap hresX 12
    have r13 := Lib.cell_of_heap hresX 13
    have f13 := Lib.frozen_of_heap hresX 13
    have b0 := Lib.cell_of_heap hboxX 0
    have d0 := Lib.frozen_of_heap hboxX 0
    have b1 := Lib.cell_of_heap hboxX 1
    have d1 := Lib.frozen_of_heap hboxX 1
    have b2 := Lib.cell_of_heap hboxX 2
    have d2 := Lib.frozen_of_heap hboxX 2
    have b3 := Lib.cell_of_heap hboxX 3
    have d3 := Lib.frozen_of_heap hboxX 3
    have b4 := Lib.cell_of_heap hboxX 4
    have d4 := Lib.frozen_of_heap hboxX 4
    have b5 := Lib.cell_of_heap hboxX 5
    have d5 := Lib.frozen_of_heap hboxX 5
    have b6 := Lib.cell_of_heap hboxX 6
    have d6 := Lib.frozen_of_heap hboxX 6
    have b7 := Lib.cell_of_heap hboxX 7
    have d7 := Lib.frozen_of_heap hboxX 7
    have b8 := Lib.cell_of_heap hboxX 8
    have d8 := Lib.frozen_of_heap hboxX 8
    have b9 := Lib.cell_of_heap hboxX 9
    have d9 := Lib.frozen_of_heap hboxX 9
    have b10 := Lib.cell_of_heap hboxX 10
    have d10 := Lib.frozen_of_heap hboxX 10
    have b11 := Lib.cell_of_heap hboxX 11
    have d11 := Lib.frozen_of_heap hboxX 11
    have b12 := Lib.cell_of_heap hboxX 12
    have d12 := Lib.frozen_of_heap hboxX 12
    have b13 := Lib.cell_of_heap hboxX 13
    have d13 := Lib.frozen_of_heap hboxX 13
    have hF := put_fin hresX hBX (by omega) [.int .i64 c.term, .int .i64 c.kind, .int .i64 c.com.op, .string x1, .string x2, .string x3, .string x4, .string x5, .string x6, .slice ao c.com.names.length ac, .int .i64 c.com.pos, .int .i64 c.com.ses, .int .i64 c.com.seq, .slice bo c.nodes.length bc] rfl
    have hrow0 : (setAll w3 R 0 [.int .i64 c.term, .int .i64 c.kind, .int .i64 c.com.op, .string x1, .string x2, .string x3, .string x4, .string x5, .string x6, .slice ao c.com.names.length ac, .int .i64 c.com.pos, .int .i64 c.com.ses, .int .i64 c.com.seq, .slice bo c.nodes.length bc]).ownsRow w.heap.size _ _ _ _ _ := own_low (ownsRow_heap hOX fun q hq => setAll_other (by have := (World.ownsRow.lt hOX q hq).1; omega) _ w3 0) (by omega : w.heap.size ≤ w1.heap.size)
    have hrow1 : (setAll w3 R 0 [.int .i64 c.term, .int .i64 c.kind, .int .i64 c.com.op, .string x1, .string x2, .string x3, .string x4, .string x5, .string x6, .slice ao c.com.names.length ac, .int .i64 c.com.pos, .int .i64 c.com.ses, .int .i64 c.com.seq, .slice bo c.nodes.length bc]).ownsRow w.heap.size _ _ _ _ _ := own_low (ownsRow_heap hO2X fun q hq => setAll_other (by have := (World.ownsRow.lt hO2X q hq).1; omega) _ w3 0) (by omega : w.heap.size ≤ w1.heap.size)
    simp only [setAll, Nat.reduceAdd, Nat.zero_add] at hF hrow0 hrow1
    have hF' := Lib.hid hF
    have hW0 := Lib.hid hrow0
    have hW1 := Lib.hid hrow1
    clear hF hrow0 hrow1 hE hresX hboxX hBX hOX hO2X h0
    go_wp2
    have hl := run_loadVar_row (P := Try.prog) _ R 39 39 _ _ _ hF'.out.1 Try.underlying39 rfl (by kernel_rfl)
    refine bodyPost_ret (res_two (fn := Try.f31) (p := 4) (u := 5) (ty := 39) rfl _ _ R _ rfl hl _ rfl) rfl ⟨.slice ao c.com.names.length ac, .slice bo c.nodes.length bc, ?_, ?_, ?_, hF'.out.2⟩
    · rw [hE'.out, ← XX.out.1, ← XX.out.2.1, ← XX.out.2.2.1, ← XX.out.2.2.2.1, ← XX.out.2.2.2.2.1, ← XX.out.2.2.2.2.2]; rfl
    · rw [hE'.out]; exact hW0.out
    · rw [hE'.out]; exact hW1.out
  · have q1 : ((er : Int) == 0) = false := beq_eq_false_iff_ne.2 (by omega)
    have q2 : ((er : Int) != 0) = true := by rw [bne, q1]; rfl
    have q3 : ¬ (er : Int) = 0 := by omega
    have hE := hg'.out
    rw [if_neg h0] at hE
    have hE' := Lib.hid hE.symm
    clear h0
    go_upto_region 6 with fail
    obtain ⟨wN, hwN⟩ : ∃ x, w3.alloc (.cells #[.int .i64 0, .int .i64 0, .int .i64 0, .string ⟨#[]⟩, .string ⟨#[]⟩, .string ⟨#[]⟩, .string ⟨#[]⟩, .string ⟨#[]⟩, .string ⟨#[]⟩, .slice none 0 0, .int .i64 0, .int .i64 0, .int .i64 0, .slice none 0 0] 39) = x := ⟨_, rfl⟩
    have hbN : Below w3.heap.size w3 wN := by rw [← hwN]; exact (Below.refl _ _).alloc (Nat.le_refl _) _
    have hboxN : wN.heap[w3.heap.size]? = some (.cells #[.int .i64 0, .int .i64 0, .int .i64 0, .string ⟨#[]⟩, .string ⟨#[]⟩, .string ⟨#[]⟩, .string ⟨#[]⟩, .string ⟨#[]⟩, .string ⟨#[]⟩, .slice none 0 0, .int .i64 0, .int .i64 0, .int .i64 0, .slice none 0 0] 39 (0, 0)) := by rw [← hwN]; exact heap_alloc_new w3 _
    have hresN := (hbN.block R (Array.getElem?_eq_some_iff.1 hresX).1).trans hresX
    have hBN := hBX.trans (hbN.mono hBX.size)
    rw [hwN]
    clear hwN
    have r0 := Lib.cell_of_heap hresN 0
    have f0 := Lib.frozen_of_heap hresN 0
    have r1 := Lib.cell_of_heap hresN 1
    have f1 := Lib.frozen_of_heap hresN 1
    have r2 := Lib.cell_of_heap hresN 2
    have f2 := Lib.frozen_of_heap hresN 2
    have r3 := Lib.cell_of_heap hresN 3
    have f3 := Lib.frozen_of_heap hresN 3
    have r4 := Lib.cell_of_heap hresN 4
    have f4 := Lib.frozen_of_heap hresN 4
    have r5 := Lib.cell_of_heap hresN 5
    have f5 := Lib.frozen_of_heap hresN 5
    have r6 := Lib.cell_of_heap hresN 6
    have f6 := Lib.frozen_of_heap hresN 6
    have r7 := Lib.cell_of_heap hresN 7
    have f7 := Lib.frozen_of_heap hresN 7
    have r8 := Lib.cell_of_heap hresN 8
    have f8 := Lib.frozen_of_heap hresN 8
    have r9 := Lib.cell_of_heap hresN 9
    have f9 := Lib.frozen_of_heap hresN 9
    have r10 := Lib.cell_of_heap hresN 10
    have f10 := Lib.frozen_of_heap hresN 10
    have r11 := Lib.cell_of_heap hresN 11
    have f11 := Lib.frozen_of_heap hresN 11
    have r12 := Lib.cell_of_heap hresN 12
    have f12 := Lib.frozen_of_heap hresN 12
    have r13 := Lib.cell_of_heap hresN 13
    have f13 := Lib.frozen_of_heap hresN 13
    have b0 := Lib.cell_of_heap hboxN 0
    have d0 := Lib.frozen_of_heap hboxN 0
    have b1 := Lib.cell_of_heap hboxN 1
    have d1 := Lib.frozen_of_heap hboxN 1
    have b2 := Lib.cell_of_heap hboxN 2
    have d2 := Lib.frozen_of_heap hboxN 2
    have b3 := Lib.cell_of_heap hboxN 3
    have d3 := Lib.frozen_of_heap hboxN 3
    have b4 := Lib.cell_of_heap hboxN 4
    have d4 := Lib.frozen_of_heap hboxN 4
    have b5 := Lib.cell_of_heap hboxN 5
    have d5 := Lib.frozen_of_heap hboxN 5
    have b6 := Lib.cell_of_heap hboxN 6
    have d6 := Lib.frozen_of_heap hboxN 6
    have b7 := Lib.cell_of_heap hboxN 7
    have d7 := Lib.frozen_of_heap hboxN 7
    have b8 := Lib.cell_of_heap hboxN 8
    have d8 := Lib.frozen_of_heap hboxN 8
    have b9 := Lib.cell_of_heap hboxN 9
    have d9 := Lib.frozen_of_heap hboxN 9
    have b10 := Lib.cell_of_heap hboxN 10
    have d10 := Lib.frozen_of_heap hboxN 10
    have b11 := Lib.cell_of_heap hboxN 11
    have d11 := Lib.frozen_of_heap hboxN 11
    have b12 := Lib.cell_of_heap hboxN 12
    have d12 := Lib.frozen_of_heap hboxN 12
    have b13 := Lib.cell_of_heap hboxN 13
    have d13 := Lib.frozen_of_heap hboxN 13
    have hF := put_fin hresN hBN (by omega) [.int .i64 0, .int .i64 0, .int .i64 0, .string ⟨#[]⟩, .string ⟨#[]⟩, .string ⟨#[]⟩, .string ⟨#[]⟩, .string ⟨#[]⟩, .string ⟨#[]⟩, .slice none 0 0, .int .i64 0, .int .i64 0, .int .i64 0, .slice none 0 0] rfl
    simp only [setAll, Nat.reduceAdd, Nat.zero_add] at hF
    have hF' := Lib.hid hF
    clear hF hE hresX hboxX hBX hOX hO2X hbN hboxN hresN hBN
    go_wp2
    have hl := run_loadVar_row (P := Try.prog) _ R 39 39 _ _ _ hF'.out.1 Try.underlying39 rfl (by kernel_rfl)
    refine bodyPost_ret (res_two (fn := Try.f31) (p := 4) (u := 5) (ty := 39) rfl _ _ R _ rfl hl _ rfl) rfl ⟨.slice none 0 0, .slice none 0 0, ?_, ?_, ?_, hF'.out.2⟩
    · rw [hE'.out]; rfl
    · rw [hE'.out]; exact World.ownsRow_nil _ _ _ _
    · rw [hE'.out]; exact World.ownsRow_nil _ _ _ _
end Go.Proofs.Ytpngbfmbjldieaa.Ly
