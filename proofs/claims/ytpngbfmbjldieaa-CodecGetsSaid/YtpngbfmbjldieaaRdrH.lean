/-
  A READER IN MEMORY: codec's getReply, getLog.
-/
import Derived.Test.YtpngbfmbjldieaaRdrG
import Derived.Test.YtpngbfmbjldieaaCodLog
import Derived.Deep.Cut
set_option linter.unusedVariables false
namespace Go.Proofs.Ytpngbfmbjldieaa.Ly
open Go.Lib Go.RowKit
open Bo (Kp Row ownsRow_heap sv sv_data)
open Cd (St takeS numS intS toI RowsAt cntS txtS bytS flgS wrong endS rowS lstS encS encI encE En enS Rep repS repV Com comS comV comC com0 Lg logS logV knd setAll setAll_heap setAll_other setAll_size setAll_kp setArr setArr_all)

set_option maxHeartbeats 8000000 in
set_option maxRecDepth 100000 in
theorem rGetReply_any (w : World) (rb : Nat) (s : St) (h : RdIs w rb s) (hsz : szS s ≤ 1099511627776) :
    Calls Try.prog 30 #[rr rb] w fun e w' => ∃ ev, e = .returned (repV (repS s).1 ev) ∧ w'.ownsRow w.heap.size 76 4 ev (repS s).1.ents.length ((repS s).1.ents.flatMap encE) ∧ RdIs w' rb (repS s).2 ∧ Kp [rb] w w' := by
  have hrl := h.lt
  obtain ⟨w0, hw0⟩ : ∃ x, w.alloc (.cells #[.int .i64 0, .int .i64 0, .string ⟨#[]⟩, .slice none 0 0, .string ⟨#[]⟩] 33) = x := ⟨_, rfl⟩
  have hb0 : Below w.heap.size w w0 := by rw [← hw0]; exact (Below.refl _ _).alloc (Nat.le_refl _) _
  have hres0 : w0.heap[w.heap.size]? = some (.cells #[.int .i64 0, .int .i64 0, .string ⟨#[]⟩, .slice none 0 0, .string ⟨#[]⟩] 33 (0, 0)) := by rw [← hw0]; exact heap_alloc_new w _
  have hlt := (Array.getElem?_eq_some_iff.1 hres0).1
  have cR := rReply_any w0 rb s (h.kept hb0) hsz
  obtain ⟨r, hr⟩ : ∃ r, (repS s).1 = r := ⟨_, rfl⟩
  obtain ⟨s2, hs2⟩ : ∃ r, (repS s).2 = r := ⟨_, rfl⟩
  rw [hr, hs2] at cR ⊢
  obtain ⟨R, hRe⟩ : ∃ b, w.heap.size = b := ⟨_, rfl⟩
  rw [hRe] at hres0 hlt hrl
  have hb0' := Lib.hid hb0
  have hres' := Lib.hid hres0
  clear h hr hs2 hb0 hres0 hsz
  go_enter Try.func30, Try.ntmps30
  go_wp2_with fail
  go_at_call 51
  refine cR.mono ?_
  rintro e w1 ⟨v, rfl, hO, hR, hK⟩
  have hbk := (hK.block R hlt (by simp; omega)).trans hres'.out
  obtain ⟨ao, ac, rfl⟩ := own_form hO
  have r0 := Lib.cell_of_heap hbk 0
  have r1 := Lib.cell_of_heap hbk 1
  have r2 := Lib.cell_of_heap hbk 2
  have r3 := Lib.cell_of_heap hbk 3
  have r4 := Lib.cell_of_heap hbk 4
  have f0 := Lib.frozen_of_heap hbk 0
  have f1 := Lib.frozen_of_heap hbk 1
  have f2 := Lib.frozen_of_heap hbk 2
  have f3 := Lib.frozen_of_heap hbk 3
  have f4 := Lib.frozen_of_heap hbk 4
  obtain ⟨x1, hx1⟩ : ∃ x : ByteArray, (⟨r.data.toArray⟩ : ByteArray) = x := ⟨_, rfl⟩
  obtain ⟨x2, hx2⟩ : ∃ x : ByteArray, (⟨r.tok.toArray⟩ : ByteArray) = x := ⟨_, rfl⟩
  have hF := res_fin hR hbk hrl ((Kp.of_below hb0'.out).trans hK) (by omega) [.int .i64 r.st, .int .i64 r.tag, .string x1, .slice ao r.ents.length ac, .string x2] rfl
  have hrow : (setAll w1 R 0 [.int .i64 r.st, .int .i64 r.tag, .string x1, .slice ao r.ents.length ac, .string x2]).ownsRow w.heap.size 76 4 (.slice ao r.ents.length ac) r.ents.length (r.ents.flatMap encE) := own_low (ownsRow_heap hO fun q hq => setAll_other (by have := (World.ownsRow.lt hO q hq).1; omega) _ _ _) (by omega)
  simp only [setAll, Nat.reduceAdd, Nat.zero_add] at hF hrow
  have hF' := Lib.hid (And.intro hF hrow)
  have hX := Lib.hid (And.intro hx1 hx2)
  unfold repV sv
  rw [hx1, hx2]
  clear hF hrow hO hR hK hbk cR hx1 hx2
  go_wp2
  have hres := fun tm (hp : tm.getD 2 undef = .pointer (some ⟨R, 0, none⟩)) => results_cell_row (fn := Try.f30) (p := 2) (ty := 33) rfl tm _ R _ _ _ _ hp hF'.out.1.1 Try.underlying33 rfl (by kernel_rfl)
  exact bodyPost_ret (hres _ rfl) rfl ⟨_, by rw [← hX.out.1, ← hX.out.2]; rfl, hF'.out.2, hF'.out.1.2.1, by have := hF'.out.1.2.2; exact this⟩

theorem wrong_false (s : St) : wrong false s = s := by
  cases s with
  | none => rfl
  | some y => obtain ⟨l, f⟩ := y; simp [wrong]
set_option maxHeartbeats 16000000 in
set_option maxRecDepth 100000 in
theorem rLog_any (w : World) (rb : Nat) (s : St) (h : RdIs w rb s) (hsz : szS s ≤ 1099511627776) :
    Calls Try.prog 32 #[rr rb] w fun e w' => ∃ nv ds, e = .returned (logV (logS s).1 nv ds) ∧ w'.ownsRow w.heap.size 9 1 nv (logS s).1.com.names.length ((logS s).1.com.names.flatMap encS) ∧ w'.ownsRow w.heap.size 3 1 ds (logS s).1.nodes.length ((logS s).1.nodes.flatMap encI) ∧ RdIs w' rb (logS s).2 ∧ Kp [rb] w w' := by
  have hrl := h.lt
  obtain ⟨w0, hw0⟩ : ∃ x, w.alloc (.cells #[.int .i64 0, .int .i64 0, .int .i64 0, .string ⟨#[]⟩, .string ⟨#[]⟩, .string ⟨#[]⟩, .string ⟨#[]⟩, .string ⟨#[]⟩, .string ⟨#[]⟩, .slice none 0 0, .int .i64 0, .int .i64 0, .int .i64 0, .slice none 0 0] 39) = x := ⟨_, rfl⟩
  have hb0 : Below w.heap.size w w0 := by rw [← hw0]; exact (Below.refl _ _).alloc (Nat.le_refl _) _
  have hres0 : w0.heap[w.heap.size]? = some (.cells #[.int .i64 0, .int .i64 0, .int .i64 0, .string ⟨#[]⟩, .string ⟨#[]⟩, .string ⟨#[]⟩, .string ⟨#[]⟩, .string ⟨#[]⟩, .string ⟨#[]⟩, .slice none 0 0, .int .i64 0, .int .i64 0, .int .i64 0, .slice none 0 0] 39 (0, 0)) := by rw [← hw0]; exact heap_alloc_new w _
  have hlt := (Array.getElem?_eq_some_iff.1 hres0).1
  have cR := rWhole_any w0 rb s (h.kept hb0)
  have hz1 := sz_int s
  have hz2 := sz_take 1 (intS s).2
  have hn := bytS_lt (intS s).2
  have hlog : logS s = (if (bytS (intS s).2).1 = 1 then (⟨(intS s).1, 1, (comS (wrong (decide (2 < (bytS (intS s).2).1)) (bytS (intS s).2).2)).1, []⟩, (comS (wrong (decide (2 < (bytS (intS s).2).1)) (bytS (intS s).2).2)).2) else if (bytS (intS s).2).1 = 2 then (⟨(intS s).1, 2, com0, (rowS intS (wrong (decide (2 < (bytS (intS s).2).1)) (bytS (intS s).2).2)).1⟩, (rowS intS (wrong (decide (2 < (bytS (intS s).2).1)) (bytS (intS s).2).2)).2) else (⟨(intS s).1, ((bytS (intS s).2).1 : Int), com0, []⟩, wrong (decide (2 < (bytS (intS s).2).1)) (bytS (intS s).2).2)) := rfl
  rw [hlog]
  clear hlog
  obtain ⟨z, hz⟩ : ∃ z, (intS s).1 = z := ⟨_, rfl⟩
  obtain ⟨s1, hs1⟩ : ∃ z, (intS s).2 = z := ⟨_, rfl⟩
  rw [hz, hs1] at cR ⊢
  rw [hs1] at hz1 hz2 hn
  obtain ⟨n, hne⟩ : ∃ z, (bytS s1).1 = z := ⟨_, rfl⟩
  obtain ⟨s2, hs2⟩ : ∃ z, (bytS s1).2 = z := ⟨_, rfl⟩
  have hs2' : (takeS 1 s1).2 = s2 := hs2
  rw [hne] at hn ⊢
  rw [hs2] at ⊢
  rw [hs2'] at hz2
  have hzz : szS s2 ≤ 1099511627776 := by omega
  obtain ⟨R, hRe⟩ : ∃ b, w.heap.size = b := ⟨_, rfl⟩
  rw [hRe] at hres0 hlt hrl
  have hb0' := Lib.hid hb0
  have hres' := Lib.hid hres0
  have hcv : IntKind.i64.wrap (n : Int) = (n : Int) := by rw [IntKind.wrap_i64]; omega
  obtain ⟨g, hg⟩ : ∃ g : Lg × St, (if n = 1 then ((⟨z, 1, (comS (wrong (decide (2 < n)) s2)).1, []⟩ : Lg), (comS (wrong (decide (2 < n)) s2)).2) else if n = 2 then (⟨z, 2, com0, (rowS intS (wrong (decide (2 < n)) s2)).1⟩, (rowS intS (wrong (decide (2 < n)) s2)).2) else (⟨z, (n : Int), com0, []⟩, wrong (decide (2 < n)) s2)) = g := ⟨_, rfl⟩
  rw [hg]
  have hg' := Lib.hid hg
  clear h hb0 hres0 hsz hz1 hz2 hs2' hz hs1 hg
  go_enter Try.func32, Try.ntmps32
  go_wp2_with fail
  go_at_call 48
  refine cR.mono ?_
  rintro e w1 ⟨rfl, hR, hK⟩
  have cB := rByte_any w1 rb s1 hR
  rw [hne, hs2] at cB
  have hK1 := Lib.hid hK
  clear hR hK cR hne hs2
  go_wp2_with fail
  go_at_call 52
  refine cB.mono ?_
  rintro e w2 ⟨rfl, hR, hK⟩
  have hR2 := Lib.hid hR
  have hK2 := Lib.hid (hK1.out.trans hK)
  clear hR hK cB
  -- the four kinds
  have hlR : R < w2.heap.size := Nat.lt_of_lt_of_le hlt hK2.out.size
  have hbC : Below w2.heap.size w2 (w2.alloc (.cells #[.int .i64 z, .int .i64 (n : Int), .int .i64 0, .string ⟨#[]⟩, .string ⟨#[]⟩, .string ⟨#[]⟩, .string ⟨#[]⟩, .string ⟨#[]⟩, .string ⟨#[]⟩, .slice none 0 0, .int .i64 0, .int .i64 0, .int .i64 0, .slice none 0 0] 39)) := (Below.refl _ _).alloc (Nat.le_refl _) _
  have hboxC : (w2.alloc (.cells #[.int .i64 z, .int .i64 (n : Int), .int .i64 0, .string ⟨#[]⟩, .string ⟨#[]⟩, .string ⟨#[]⟩, .string ⟨#[]⟩, .string ⟨#[]⟩, .string ⟨#[]⟩, .slice none 0 0, .int .i64 0, .int .i64 0, .int .i64 0, .slice none 0 0] 39)).heap[w2.heap.size]? = some (.cells #[.int .i64 z, .int .i64 (n : Int), .int .i64 0, .string ⟨#[]⟩, .string ⟨#[]⟩, .string ⟨#[]⟩, .string ⟨#[]⟩, .string ⟨#[]⟩, .string ⟨#[]⟩, .slice none 0 0, .int .i64 0, .int .i64 0, .int .i64 0, .slice none 0 0] 39 (0, 0)) := heap_alloc_new w2 _
  have hRC := Lib.hid (hR2.out.kept hbC)
  have hKC := Lib.hid (hK2.out.belowThen hbC)
  have hresC := Lib.hid ((hbC.block R hlR).trans ((hK2.out.block R hlt (by simp; omega)).trans hres'.out))
  have hboxC' := Lib.hid hboxC
  have hCs : w2.heap.size < (w2.alloc (.cells #[.int .i64 z, .int .i64 (n : Int), .int .i64 0, .string ⟨#[]⟩, .string ⟨#[]⟩, .string ⟨#[]⟩, .string ⟨#[]⟩, .string ⟨#[]⟩, .string ⟨#[]⟩, .slice none 0 0, .int .i64 0, .int .i64 0, .int .i64 0, .slice none 0 0] 39)).heap.size := (Array.getElem?_eq_some_iff.1 hboxC).1
  obtain ⟨CB, hCB⟩ : ∃ b, w2.heap.size = b := ⟨_, rfl⟩
  rw [hCB] at hboxC' hlR hCs
  clear hbC hboxC
  by_cases k1 : n = 1
  · have g0 : ((n : Int) == 0) = false := by rw [k1]; rfl
    have g1 : ((n : Int) == 1) = true := by rw [k1]; rfl
    have hE := hg'.out
    rw [if_pos k1, show wrong (decide (2 < n)) s2 = s2 by rw [k1]; exact wrong_false s2] at hE
    have cC := rCommand_any (w2.alloc (.cells #[.int .i64 z, .int .i64 (n : Int), .int .i64 0, .string ⟨#[]⟩, .string ⟨#[]⟩, .string ⟨#[]⟩, .string ⟨#[]⟩, .string ⟨#[]⟩, .string ⟨#[]⟩, .slice none 0 0, .int .i64 0, .int .i64 0, .int .i64 0, .slice none 0 0] 39)) rb s2 hRC.out hzz
    obtain ⟨c, hc⟩ : ∃ c, (comS s2).1 = c := ⟨_, rfl⟩
    obtain ⟨s3, hs3⟩ : ∃ c, (comS s2).2 = c := ⟨_, rfl⟩
    rw [hc, hs3] at cC hE
    have hE' := Lib.hid hE.symm
    have k1' := Lib.hid k1
    clear hc hs3 k1 hE
    go_wp2_with fail
    go_at_call 28
    refine cC.mono ?_
    rintro e w4 ⟨nv, rfl, hO, hR, hK⟩
    obtain ⟨ao, ac, rfl⟩ := own_form hO
    obtain ⟨x1, hx1⟩ : ∃ x : ByteArray, (⟨c.book.toArray⟩ : ByteArray) = x := ⟨_, rfl⟩
    obtain ⟨x2, hx2⟩ : ∃ x : ByteArray, (⟨c.name.toArray⟩ : ByteArray) = x := ⟨_, rfl⟩
    obtain ⟨x3, hx3⟩ : ∃ x : ByteArray, (⟨c.data.toArray⟩ : ByteArray) = x := ⟨_, rfl⟩
    obtain ⟨x4, hx4⟩ : ∃ x : ByteArray, (⟨c.mat.toArray⟩ : ByteArray) = x := ⟨_, rfl⟩
    obtain ⟨x5, hx5⟩ : ∃ x : ByteArray, (⟨c.non.toArray⟩ : ByteArray) = x := ⟨_, rfl⟩
    obtain ⟨x6, hx6⟩ : ∃ x : ByteArray, (⟨c.tok.toArray⟩ : ByteArray) = x := ⟨_, rfl⟩
    unfold comV comC sv
    rw [hx1, hx2, hx3, hx4, hx5, hx6]
    have XX := Lib.hid (And.intro hx1 (And.intro hx2 (And.intro hx3 (And.intro hx4 (And.intro hx5 hx6)))))
    have hbox4 := (hK.block CB hCs (by simp; omega)).trans hboxC'.out
    have hres4 := (hK.block R (by omega) (by simp; omega)).trans hresC.out
    have r0 := Lib.cell_of_heap hres4 0
    have f0 := Lib.frozen_of_heap hres4 0
    have r1 := Lib.cell_of_heap hres4 1
    have f1 := Lib.frozen_of_heap hres4 1
    have r2 := Lib.cell_of_heap hres4 2
    have f2 := Lib.frozen_of_heap hres4 2
    have r3 := Lib.cell_of_heap hres4 3
    have f3 := Lib.frozen_of_heap hres4 3
    have r4 := Lib.cell_of_heap hres4 4
    have f4 := Lib.frozen_of_heap hres4 4
    have r5 := Lib.cell_of_heap hres4 5
    have f5 := Lib.frozen_of_heap hres4 5
    have r6 := Lib.cell_of_heap hres4 6
    have f6 := Lib.frozen_of_heap hres4 6
    have r7 := Lib.cell_of_heap hres4 7
    have f7 := Lib.frozen_of_heap hres4 7
    have r8 := Lib.cell_of_heap hres4 8
    have f8 := Lib.frozen_of_heap hres4 8
    have r9 := Lib.cell_of_heap hres4 9
    have f9 := Lib.frozen_of_heap hres4 9
    have r10 := Lib.cell_of_heap hres4 10
    have f10 := Lib.frozen_of_heap hres4 10
    have r11 := Lib.cell_of_heap hres4 11
    have f11 := Lib.frozen_of_heap hres4 11
    have r12 := Lib.cell_of_heap hres4 12
    have f12 := Lib.frozen_of_heap hres4 12
    have r13 := Lib.cell_of_heap hres4 13
    have f13 := Lib.frozen_of_heap hres4 13
    have b0 := Lib.cell_of_heap hbox4 0
    have d0 := Lib.frozen_of_heap hbox4 0
    have b1 := Lib.cell_of_heap hbox4 1
    have d1 := Lib.frozen_of_heap hbox4 1
    have b2 := Lib.cell_of_heap hbox4 2
    have d2 := Lib.frozen_of_heap hbox4 2
    have b3 := Lib.cell_of_heap hbox4 3
    have d3 := Lib.frozen_of_heap hbox4 3
    have b4 := Lib.cell_of_heap hbox4 4
    have d4 := Lib.frozen_of_heap hbox4 4
    have b5 := Lib.cell_of_heap hbox4 5
    have d5 := Lib.frozen_of_heap hbox4 5
    have b6 := Lib.cell_of_heap hbox4 6
    have d6 := Lib.frozen_of_heap hbox4 6
    have b7 := Lib.cell_of_heap hbox4 7
    have d7 := Lib.frozen_of_heap hbox4 7
    have b8 := Lib.cell_of_heap hbox4 8
    have d8 := Lib.frozen_of_heap hbox4 8
    have b9 := Lib.cell_of_heap hbox4 9
    have d9 := Lib.frozen_of_heap hbox4 9
    have b10 := Lib.cell_of_heap hbox4 10
    have d10 := Lib.frozen_of_heap hbox4 10
    have b11 := Lib.cell_of_heap hbox4 11
    have d11 := Lib.frozen_of_heap hbox4 11
    have b12 := Lib.cell_of_heap hbox4 12
    have d12 := Lib.frozen_of_heap hbox4 12
    have b13 := Lib.cell_of_heap hbox4 13
    have d13 := Lib.frozen_of_heap hbox4 13
    have hOl : ∀ q, (Value.slice ao c.names.length ac).ownBlock = some q → CB < q := fun q hq => by have := (World.ownsRow.lt hO q hq).1; omega
    have hRz : RdIs (setAll w4 CB 2 [.int .i64 c.op, .string x1, .string x2, .string x3, .string x4, .string x5, .string x6, .slice ao c.names.length ac, .int .i64 c.pos, .int .i64 c.ses, .int .i64 c.seq]) rb s3 := hR.frame fun k hk => setAll_other (by omega) _ w4 2
    have hresz : (setAll w4 CB 2 [.int .i64 c.op, .string x1, .string x2, .string x3, .string x4, .string x5, .string x6, .slice ao c.names.length ac, .int .i64 c.pos, .int .i64 c.ses, .int .i64 c.seq]).heap[R]? = _ := (setAll_other (by omega) _ w4 2).trans hres4
    have hKz : Kp [rb] w0 (setAll w4 CB 2 [.int .i64 c.op, .string x1, .string x2, .string x3, .string x4, .string x5, .string x6, .slice ao c.names.length ac, .int .i64 c.pos, .int .i64 c.ses, .int .i64 c.seq]) := setAll_kp (by have := hK2.out.size; omega) _ w4 2 (hKC.out.trans hK)
    have hF := res_fin hRz hresz hrl (Kp.trans (Kp.of_below hb0'.out) hKz) (by omega) [.int .i64 z, .int .i64 (n : Int), .int .i64 c.op, .string x1, .string x2, .string x3, .string x4, .string x5, .string x6, .slice ao c.names.length ac, .int .i64 c.pos, .int .i64 c.ses, .int .i64 c.seq, .slice none 0 0] rfl
    have hrow1 : (setAll (setAll w4 CB 2 [.int .i64 c.op, .string x1, .string x2, .string x3, .string x4, .string x5, .string x6, .slice ao c.names.length ac, .int .i64 c.pos, .int .i64 c.ses, .int .i64 c.seq]) R 0 [.int .i64 z, .int .i64 (n : Int), .int .i64 c.op, .string x1, .string x2, .string x3, .string x4, .string x5, .string x6, .slice ao c.names.length ac, .int .i64 c.pos, .int .i64 c.ses, .int .i64 c.seq, .slice none 0 0]).ownsRow (R + 1) 9 1 (.slice ao c.names.length ac) c.names.length (c.names.flatMap encS) := own_low (ownsRow_heap (ownsRow_heap hO fun q hq => setAll_other (by have := hOl q hq; omega) _ w4 2) fun q hq => setAll_other (by have := hOl q hq; omega) _ _ 0) (by omega)
    have hrow2 : (setAll (setAll w4 CB 2 [.int .i64 c.op, .string x1, .string x2, .string x3, .string x4, .string x5, .string x6, .slice ao c.names.length ac, .int .i64 c.pos, .int .i64 c.ses, .int .i64 c.seq]) R 0 [.int .i64 z, .int .i64 (n : Int), .int .i64 c.op, .string x1, .string x2, .string x3, .string x4, .string x5, .string x6, .slice ao c.names.length ac, .int .i64 c.pos, .int .i64 c.ses, .int .i64 c.seq, .slice none 0 0]).ownsRow (R + 1) 3 1 (.slice none 0 0) ([] : List Int).length (([] : List Int).flatMap encI) := World.ownsRow_nil _ _ _ _
    simp only [setAll, Nat.reduceAdd, Nat.zero_add] at hF hrow1 hrow2
    have hF' := Lib.hid (And.intro hF (And.intro (own_low hrow1 (by omega : w.heap.size ≤ R + 1)) (own_low hrow2 (by omega : w.heap.size ≤ R + 1))))
    clear hO hR hK hx1 hx2 hx3 hx4 hx5 hx6 hbox4 hres4 hOl cC
    clear hF hrow1 hrow2 hRz hresz hKz
    go_wp2
    have hres := fun tm (hp : tm.getD 2 undef = .pointer (some ⟨R, 0, none⟩)) => results_cell_row (fn := Try.f32) (p := 2) (ty := 39) rfl tm _ R _ _ _ _ hp hF'.out.1.1 Try.underlying39 rfl (by kernel_rfl)
    refine bodyPost_ret (hres _ rfl) rfl ⟨.slice ao c.names.length ac, .slice none 0 0, ?_, ?_, ?_, ?_, hF'.out.1.2.2⟩
    · rw [hE'.out, k1'.out, ← XX.out.1, ← XX.out.2.1, ← XX.out.2.2.1, ← XX.out.2.2.2.1, ← XX.out.2.2.2.2.1, ← XX.out.2.2.2.2.2]; rfl
    · rw [hE'.out]; exact hF'.out.2.1
    · rw [hE'.out]; exact hF'.out.2.2
    · rw [hE'.out]; exact hF'.out.1.2.1
  by_cases k2 : n = 2
  · have g0 : ((n : Int) == 0) = false := by rw [k2]; rfl
    have g1 : ((n : Int) == 1) = false := by rw [k2]; rfl
    have g2 : ((n : Int) == 2) = true := by rw [k2]; rfl
    have hE := hg'.out
    rw [if_neg k1, if_pos k2, show wrong (decide (2 < n)) s2 = s2 by rw [k2]; exact wrong_false s2] at hE
    have cC := listedInt_any (w2.alloc (.cells #[.int .i64 z, .int .i64 (n : Int), .int .i64 0, .string ⟨#[]⟩, .string ⟨#[]⟩, .string ⟨#[]⟩, .string ⟨#[]⟩, .string ⟨#[]⟩, .string ⟨#[]⟩, .slice none 0 0, .int .i64 0, .int .i64 0, .int .i64 0, .slice none 0 0] 39)) rb s2 hRC.out hzz
    obtain ⟨ys, hc⟩ : ∃ c, (rowS intS s2).1 = c := ⟨_, rfl⟩
    obtain ⟨s3, hs3⟩ : ∃ c, (rowS intS s2).2 = c := ⟨_, rfl⟩
    rw [hc, hs3] at cC hE
    have hE' := Lib.hid hE.symm
    have k2' := Lib.hid k2
    clear hc hs3 k1 k2 hE
    go_wp2_with fail
    go_at_call 53
    refine cC.mono ?_
    rintro e w4 ⟨v4, rfl, hO, hR, hK⟩
    obtain ⟨ao, ac, rfl⟩ := own_form hO
    have hbox4 := (hK.block CB hCs (by simp; omega)).trans hboxC'.out
    have hres4 := (hK.block R (by omega) (by simp; omega)).trans hresC.out
    have r0 := Lib.cell_of_heap hres4 0
    have f0 := Lib.frozen_of_heap hres4 0
    have r1 := Lib.cell_of_heap hres4 1
    have f1 := Lib.frozen_of_heap hres4 1
    have r2 := Lib.cell_of_heap hres4 2
    have f2 := Lib.frozen_of_heap hres4 2
    have r3 := Lib.cell_of_heap hres4 3
    have f3 := Lib.frozen_of_heap hres4 3
    have r4 := Lib.cell_of_heap hres4 4
    have f4 := Lib.frozen_of_heap hres4 4
    have r5 := Lib.cell_of_heap hres4 5
    have f5 := Lib.frozen_of_heap hres4 5
    have r6 := Lib.cell_of_heap hres4 6
    have f6 := Lib.frozen_of_heap hres4 6
    have r7 := Lib.cell_of_heap hres4 7
    have f7 := Lib.frozen_of_heap hres4 7
    have r8 := Lib.cell_of_heap hres4 8
    have f8 := Lib.frozen_of_heap hres4 8
    have r9 := Lib.cell_of_heap hres4 9
    have f9 := Lib.frozen_of_heap hres4 9
    have r10 := Lib.cell_of_heap hres4 10
    have f10 := Lib.frozen_of_heap hres4 10
    have r11 := Lib.cell_of_heap hres4 11
    have f11 := Lib.frozen_of_heap hres4 11
    have r12 := Lib.cell_of_heap hres4 12
    have f12 := Lib.frozen_of_heap hres4 12
    have r13 := Lib.cell_of_heap hres4 13
    have f13 := Lib.frozen_of_heap hres4 13
    have b0 := Lib.cell_of_heap hbox4 0
    have d0 := Lib.frozen_of_heap hbox4 0
    have b1 := Lib.cell_of_heap hbox4 1
    have d1 := Lib.frozen_of_heap hbox4 1
    have b2 := Lib.cell_of_heap hbox4 2
    have d2 := Lib.frozen_of_heap hbox4 2
    have b3 := Lib.cell_of_heap hbox4 3
    have d3 := Lib.frozen_of_heap hbox4 3
    have b4 := Lib.cell_of_heap hbox4 4
    have d4 := Lib.frozen_of_heap hbox4 4
    have b5 := Lib.cell_of_heap hbox4 5
    have d5 := Lib.frozen_of_heap hbox4 5
    have b6 := Lib.cell_of_heap hbox4 6
    have d6 := Lib.frozen_of_heap hbox4 6
    have b7 := Lib.cell_of_heap hbox4 7
    have d7 := Lib.frozen_of_heap hbox4 7
    have b8 := Lib.cell_of_heap hbox4 8
    have d8 := Lib.frozen_of_heap hbox4 8
    have b9 := Lib.cell_of_heap hbox4 9
    have d9 := Lib.frozen_of_heap hbox4 9
    have b10 := Lib.cell_of_heap hbox4 10
    have d10 := Lib.frozen_of_heap hbox4 10
    have b11 := Lib.cell_of_heap hbox4 11
    have d11 := Lib.frozen_of_heap hbox4 11
    have b12 := Lib.cell_of_heap hbox4 12
    have d12 := Lib.frozen_of_heap hbox4 12
    have b13 := Lib.cell_of_heap hbox4 13
    have d13 := Lib.frozen_of_heap hbox4 13
    have hOl : ∀ q, (Value.slice ao ys.length ac).ownBlock = some q → CB < q := fun q hq => by have := (World.ownsRow.lt hO q hq).1; omega
    have hRz : RdIs (w4.setCell ⟨CB, 13, none⟩ (.slice ao ys.length ac)) rb s3 := hR.frame fun k hk => Below.heap_setCell _ _ _ k (show k ≠ CB by omega)
    have hresz : (w4.setCell ⟨CB, 13, none⟩ (.slice ao ys.length ac)).heap[R]? = _ := (Below.heap_setCell _ _ _ R (show R ≠ CB by omega)).trans hres4
    have hKz : Kp [rb] w0 (w4.setCell ⟨CB, 13, none⟩ (.slice ao ys.length ac)) := (hKC.out.trans hK).setCell (ad := ⟨CB, 13, none⟩) (.inr (show w0.heap.size ≤ CB by have := hK2.out.size; omega)) _
    have hF := res_fin hRz hresz hrl (Kp.trans (Kp.of_below hb0'.out) hKz) (by omega) [.int .i64 z, .int .i64 (n : Int), .int .i64 0, .string ⟨#[]⟩, .string ⟨#[]⟩, .string ⟨#[]⟩, .string ⟨#[]⟩, .string ⟨#[]⟩, .string ⟨#[]⟩, .slice none 0 0, .int .i64 0, .int .i64 0, .int .i64 0, .slice ao ys.length ac] rfl
    have hrow1 : (setAll (w4.setCell ⟨CB, 13, none⟩ (.slice ao ys.length ac)) R 0 [.int .i64 z, .int .i64 (n : Int), .int .i64 0, .string ⟨#[]⟩, .string ⟨#[]⟩, .string ⟨#[]⟩, .string ⟨#[]⟩, .string ⟨#[]⟩, .string ⟨#[]⟩, .slice none 0 0, .int .i64 0, .int .i64 0, .int .i64 0, .slice ao ys.length ac]).ownsRow (R + 1) 9 1 (.slice none 0 0) ([] : List Row).length (([] : List Row).flatMap encS) := World.ownsRow_nil _ _ _ _
    have hrow2 : (setAll (w4.setCell ⟨CB, 13, none⟩ (.slice ao ys.length ac)) R 0 [.int .i64 z, .int .i64 (n : Int), .int .i64 0, .string ⟨#[]⟩, .string ⟨#[]⟩, .string ⟨#[]⟩, .string ⟨#[]⟩, .string ⟨#[]⟩, .string ⟨#[]⟩, .slice none 0 0, .int .i64 0, .int .i64 0, .int .i64 0, .slice ao ys.length ac]).ownsRow (R + 1) 3 1 (.slice ao ys.length ac) ys.length (ys.flatMap encI) := own_low (ownsRow_heap (ownsRow_heap hO fun q hq => Below.heap_setCell _ _ _ q (show q ≠ CB by have := hOl q hq; omega)) fun q hq => setAll_other (by have := hOl q hq; omega) _ _ 0) (by omega)
    simp only [setAll, Nat.reduceAdd, Nat.zero_add] at hF hrow1 hrow2
    have hF' := Lib.hid (And.intro hF (And.intro (own_low hrow1 (by omega : w.heap.size ≤ R + 1)) (own_low hrow2 (by omega : w.heap.size ≤ R + 1))))
    clear hO hR hK hbox4 hres4 hOl cC
    clear hF hrow1 hrow2 hRz hresz hKz
    go_wp2
    have hres := fun tm (hp : tm.getD 2 undef = .pointer (some ⟨R, 0, none⟩)) => results_cell_row (fn := Try.f32) (p := 2) (ty := 39) rfl tm _ R _ _ _ _ hp hF'.out.1.1 Try.underlying39 rfl (by kernel_rfl)
    refine bodyPost_ret (hres _ rfl) rfl ⟨.slice none 0 0, .slice ao ys.length ac, ?_, ?_, ?_, ?_, hF'.out.1.2.2⟩
    · rw [hE'.out, k2'.out]; rfl
    · rw [hE'.out]; exact hF'.out.2.1
    · rw [hE'.out]; exact hF'.out.2.2
    · rw [hE'.out]; exact hF'.out.1.2.1
  have hE := hg'.out
  rw [if_neg k1, if_neg k2] at hE
  have g1 : ((n : Int) == 1) = false := beq_eq_false_iff_ne.2 (by omega)
  have g2 : ((n : Int) == 2) = false := beq_eq_false_iff_ne.2 (by omega)
  by_cases k0 : n = 0
  · have g0 : ((n : Int) == 0) = true := by rw [k0]; rfl
    rw [show wrong (decide (2 < n)) s2 = s2 by rw [k0]; exact wrong_false s2] at hE
    have hE' := Lib.hid hE.symm
    clear k0 k1 k2 hE
    go_upto_region 9 with fail
    have hRz := hRC.out
    have hresz := hresC.out
    have hKz := hKC.out
    have hboxz := hboxC'.out
    obtain ⟨wC, hwC⟩ : ∃ wC, (w2.alloc (.cells #[.int .i64 z, .int .i64 (n : Int), .int .i64 0, .string ⟨#[]⟩, .string ⟨#[]⟩, .string ⟨#[]⟩, .string ⟨#[]⟩, .string ⟨#[]⟩, .string ⟨#[]⟩, .slice none 0 0, .int .i64 0, .int .i64 0, .int .i64 0, .slice none 0 0] 39)) = wC := ⟨_, rfl⟩
    rw [hwC] at hRz hresz hKz hboxz ⊢
    have r0 := Lib.cell_of_heap hresz 0
    have f0 := Lib.frozen_of_heap hresz 0
    have r1 := Lib.cell_of_heap hresz 1
    have f1 := Lib.frozen_of_heap hresz 1
    have r2 := Lib.cell_of_heap hresz 2
    have f2 := Lib.frozen_of_heap hresz 2
    have r3 := Lib.cell_of_heap hresz 3
    have f3 := Lib.frozen_of_heap hresz 3
    have r4 := Lib.cell_of_heap hresz 4
    have f4 := Lib.frozen_of_heap hresz 4
    have r5 := Lib.cell_of_heap hresz 5
    have f5 := Lib.frozen_of_heap hresz 5
    have r6 := Lib.cell_of_heap hresz 6
    have f6 := Lib.frozen_of_heap hresz 6
    have r7 := Lib.cell_of_heap hresz 7
    have f7 := Lib.frozen_of_heap hresz 7
    have r8 := Lib.cell_of_heap hresz 8
    have f8 := Lib.frozen_of_heap hresz 8
    have r9 := Lib.cell_of_heap hresz 9
    have f9 := Lib.frozen_of_heap hresz 9
    have r10 := Lib.cell_of_heap hresz 10
    have f10 := Lib.frozen_of_heap hresz 10
    have r11 := Lib.cell_of_heap hresz 11
    have f11 := Lib.frozen_of_heap hresz 11
    have r12 := Lib.cell_of_heap hresz 12
    have f12 := Lib.frozen_of_heap hresz 12
    have r13 := Lib.cell_of_heap hresz 13
    have f13 := Lib.frozen_of_heap hresz 13
    have b0 := Lib.cell_of_heap hboxz 0
    have d0 := Lib.frozen_of_heap hboxz 0
    have b1 := Lib.cell_of_heap hboxz 1
    have d1 := Lib.frozen_of_heap hboxz 1
    have b2 := Lib.cell_of_heap hboxz 2
    have d2 := Lib.frozen_of_heap hboxz 2
    have b3 := Lib.cell_of_heap hboxz 3
    have d3 := Lib.frozen_of_heap hboxz 3
    have b4 := Lib.cell_of_heap hboxz 4
    have d4 := Lib.frozen_of_heap hboxz 4
    have b5 := Lib.cell_of_heap hboxz 5
    have d5 := Lib.frozen_of_heap hboxz 5
    have b6 := Lib.cell_of_heap hboxz 6
    have d6 := Lib.frozen_of_heap hboxz 6
    have b7 := Lib.cell_of_heap hboxz 7
    have d7 := Lib.frozen_of_heap hboxz 7
    have b8 := Lib.cell_of_heap hboxz 8
    have d8 := Lib.frozen_of_heap hboxz 8
    have b9 := Lib.cell_of_heap hboxz 9
    have d9 := Lib.frozen_of_heap hboxz 9
    have b10 := Lib.cell_of_heap hboxz 10
    have d10 := Lib.frozen_of_heap hboxz 10
    have b11 := Lib.cell_of_heap hboxz 11
    have d11 := Lib.frozen_of_heap hboxz 11
    have b12 := Lib.cell_of_heap hboxz 12
    have d12 := Lib.frozen_of_heap hboxz 12
    have b13 := Lib.cell_of_heap hboxz 13
    have d13 := Lib.frozen_of_heap hboxz 13
    clear hwC hboxz hRC hresC hKC hboxC'
    have hF := res_fin hRz hresz hrl (Kp.trans (Kp.of_below hb0'.out) hKz) (by omega) [.int .i64 z, .int .i64 (n : Int), .int .i64 0, .string ⟨#[]⟩, .string ⟨#[]⟩, .string ⟨#[]⟩, .string ⟨#[]⟩, .string ⟨#[]⟩, .string ⟨#[]⟩, .slice none 0 0, .int .i64 0, .int .i64 0, .int .i64 0, .slice none 0 0] rfl
    have hrow1 : (setAll wC R 0 [.int .i64 z, .int .i64 (n : Int), .int .i64 0, .string ⟨#[]⟩, .string ⟨#[]⟩, .string ⟨#[]⟩, .string ⟨#[]⟩, .string ⟨#[]⟩, .string ⟨#[]⟩, .slice none 0 0, .int .i64 0, .int .i64 0, .int .i64 0, .slice none 0 0]).ownsRow (R + 1) 9 1 (.slice none 0 0) ([] : List Row).length (([] : List Row).flatMap encS) := World.ownsRow_nil _ _ _ _
    have hrow2 : (setAll wC R 0 [.int .i64 z, .int .i64 (n : Int), .int .i64 0, .string ⟨#[]⟩, .string ⟨#[]⟩, .string ⟨#[]⟩, .string ⟨#[]⟩, .string ⟨#[]⟩, .string ⟨#[]⟩, .slice none 0 0, .int .i64 0, .int .i64 0, .int .i64 0, .slice none 0 0]).ownsRow (R + 1) 3 1 (.slice none 0 0) ([] : List Int).length (([] : List Int).flatMap encI) := World.ownsRow_nil _ _ _ _
    simp only [setAll, Nat.reduceAdd, Nat.zero_add] at hF hrow1 hrow2
    have hF' := Lib.hid (And.intro hF (And.intro (own_low hrow1 (by omega : w.heap.size ≤ R + 1)) (own_low hrow2 (by omega : w.heap.size ≤ R + 1))))
    clear hF hrow1 hrow2 hRz hresz hKz
    go_wp2
    have hres := fun tm (hp : tm.getD 2 undef = .pointer (some ⟨R, 0, none⟩)) => results_cell_row (fn := Try.f32) (p := 2) (ty := 39) rfl tm _ R _ _ _ _ hp hF'.out.1.1 Try.underlying39 rfl (by kernel_rfl)
    refine bodyPost_ret (hres _ rfl) rfl ⟨.slice none 0 0, .slice none 0 0, ?_, ?_, ?_, ?_, hF'.out.1.2.2⟩
    · rw [hE'.out]; rfl
    · rw [hE'.out]; exact hF'.out.2.1
    · rw [hE'.out]; exact hF'.out.2.2
    · rw [hE'.out]; exact hF'.out.1.2.1
  · have g0 : ((n : Int) == 0) = false := beq_eq_false_iff_ne.2 (by omega)
    rw [show decide (2 < n) = true from decide_eq_true (by omega)] at hE
    have hE' := Lib.hid hE.symm
    clear hE
    have cN := rNeed_any (w2.alloc (.cells #[.int .i64 z, .int .i64 (n : Int), .int .i64 0, .string ⟨#[]⟩, .string ⟨#[]⟩, .string ⟨#[]⟩, .string ⟨#[]⟩, .string ⟨#[]⟩, .string ⟨#[]⟩, .slice none 0 0, .int .i64 0, .int .i64 0, .int .i64 0, .slice none 0 0] 39)) rb s2 false hRC.out
    clear k0 k1 k2
    go_wp2_with fail
    go_at_call 54
    refine cN.mono ?_
    rintro e w4 ⟨rfl, hRz, hK⟩
    have hbox4 := (hK.block CB hCs (by simp; omega)).trans hboxC'.out
    have hresz := (hK.block R (by omega) (by simp; omega)).trans hresC.out
    have hKz := hKC.out.trans hK
    have r0 := Lib.cell_of_heap hresz 0
    have f0 := Lib.frozen_of_heap hresz 0
    have r1 := Lib.cell_of_heap hresz 1
    have f1 := Lib.frozen_of_heap hresz 1
    have r2 := Lib.cell_of_heap hresz 2
    have f2 := Lib.frozen_of_heap hresz 2
    have r3 := Lib.cell_of_heap hresz 3
    have f3 := Lib.frozen_of_heap hresz 3
    have r4 := Lib.cell_of_heap hresz 4
    have f4 := Lib.frozen_of_heap hresz 4
    have r5 := Lib.cell_of_heap hresz 5
    have f5 := Lib.frozen_of_heap hresz 5
    have r6 := Lib.cell_of_heap hresz 6
    have f6 := Lib.frozen_of_heap hresz 6
    have r7 := Lib.cell_of_heap hresz 7
    have f7 := Lib.frozen_of_heap hresz 7
    have r8 := Lib.cell_of_heap hresz 8
    have f8 := Lib.frozen_of_heap hresz 8
    have r9 := Lib.cell_of_heap hresz 9
    have f9 := Lib.frozen_of_heap hresz 9
    have r10 := Lib.cell_of_heap hresz 10
    have f10 := Lib.frozen_of_heap hresz 10
    have r11 := Lib.cell_of_heap hresz 11
    have f11 := Lib.frozen_of_heap hresz 11
    have r12 := Lib.cell_of_heap hresz 12
    have f12 := Lib.frozen_of_heap hresz 12
    have r13 := Lib.cell_of_heap hresz 13
    have f13 := Lib.frozen_of_heap hresz 13
    have b0 := Lib.cell_of_heap hbox4 0
    have d0 := Lib.frozen_of_heap hbox4 0
    have b1 := Lib.cell_of_heap hbox4 1
    have d1 := Lib.frozen_of_heap hbox4 1
    have b2 := Lib.cell_of_heap hbox4 2
    have d2 := Lib.frozen_of_heap hbox4 2
    have b3 := Lib.cell_of_heap hbox4 3
    have d3 := Lib.frozen_of_heap hbox4 3
    have b4 := Lib.cell_of_heap hbox4 4
    have d4 := Lib.frozen_of_heap hbox4 4
    have b5 := Lib.cell_of_heap hbox4 5
    have d5 := Lib.frozen_of_heap hbox4 5
    have b6 := Lib.cell_of_heap hbox4 6
    have d6 := Lib.frozen_of_heap hbox4 6
    have b7 := Lib.cell_of_heap hbox4 7
    have d7 := Lib.frozen_of_heap hbox4 7
    have b8 := Lib.cell_of_heap hbox4 8
    have d8 := Lib.frozen_of_heap hbox4 8
    have b9 := Lib.cell_of_heap hbox4 9
    have d9 := Lib.frozen_of_heap hbox4 9
    have b10 := Lib.cell_of_heap hbox4 10
    have d10 := Lib.frozen_of_heap hbox4 10
    have b11 := Lib.cell_of_heap hbox4 11
    have d11 := Lib.frozen_of_heap hbox4 11
    have b12 := Lib.cell_of_heap hbox4 12
    have d12 := Lib.frozen_of_heap hbox4 12
    have b13 := Lib.cell_of_heap hbox4 13
    have d13 := Lib.frozen_of_heap hbox4 13
    have hF := res_fin hRz hresz hrl (Kp.trans (Kp.of_below hb0'.out) hKz) (by omega) [.int .i64 z, .int .i64 (n : Int), .int .i64 0, .string ⟨#[]⟩, .string ⟨#[]⟩, .string ⟨#[]⟩, .string ⟨#[]⟩, .string ⟨#[]⟩, .string ⟨#[]⟩, .slice none 0 0, .int .i64 0, .int .i64 0, .int .i64 0, .slice none 0 0] rfl
    have hrow1 : (setAll w4 R 0 [.int .i64 z, .int .i64 (n : Int), .int .i64 0, .string ⟨#[]⟩, .string ⟨#[]⟩, .string ⟨#[]⟩, .string ⟨#[]⟩, .string ⟨#[]⟩, .string ⟨#[]⟩, .slice none 0 0, .int .i64 0, .int .i64 0, .int .i64 0, .slice none 0 0]).ownsRow (R + 1) 9 1 (.slice none 0 0) ([] : List Row).length (([] : List Row).flatMap encS) := World.ownsRow_nil _ _ _ _
    have hrow2 : (setAll w4 R 0 [.int .i64 z, .int .i64 (n : Int), .int .i64 0, .string ⟨#[]⟩, .string ⟨#[]⟩, .string ⟨#[]⟩, .string ⟨#[]⟩, .string ⟨#[]⟩, .string ⟨#[]⟩, .slice none 0 0, .int .i64 0, .int .i64 0, .int .i64 0, .slice none 0 0]).ownsRow (R + 1) 3 1 (.slice none 0 0) ([] : List Int).length (([] : List Int).flatMap encI) := World.ownsRow_nil _ _ _ _
    simp only [setAll, Nat.reduceAdd, Nat.zero_add] at hF hrow1 hrow2
    have hF' := Lib.hid (And.intro hF (And.intro (own_low hrow1 (by omega : w.heap.size ≤ R + 1)) (own_low hrow2 (by omega : w.heap.size ≤ R + 1))))
    clear hK hbox4 cN
    clear hF hrow1 hrow2 hRz hresz hKz
    go_wp2
    have hres := fun tm (hp : tm.getD 2 undef = .pointer (some ⟨R, 0, none⟩)) => results_cell_row (fn := Try.f32) (p := 2) (ty := 39) rfl tm _ R _ _ _ _ hp hF'.out.1.1 Try.underlying39 rfl (by kernel_rfl)
    refine bodyPost_ret (hres _ rfl) rfl ⟨.slice none 0 0, .slice none 0 0, ?_, ?_, ?_, ?_, hF'.out.1.2.2⟩
    · rw [hE'.out]; rfl
    · rw [hE'.out]; exact hF'.out.2.1
    · rw [hE'.out]; exact hF'.out.2.2
    · rw [hE'.out]; exact hF'.out.1.2.1
end Go.Proofs.Ytpngbfmbjldieaa.Ly
