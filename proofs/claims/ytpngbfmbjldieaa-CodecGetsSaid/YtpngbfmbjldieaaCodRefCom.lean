/-
  THE WALK OF calepinref15.Command: a command as bytes.
-/
import Derived.Test.YtpngbfmbjldieaaCodMem
import Derived.Test.YtpngbfmbjldieaaCodRefNum
set_option linter.unusedVariables false
namespace Go.Proofs.Ytpngbfmbjldieaa.Cd
open Go.Lib Go.RowKit
open Bo (Kp Row ownsRow_heap sv sv_data)
open Ly (BOwn Wr word text flag num word_len num_word word_take append_byte append_text)

set_option maxHeartbeats 16000000 in
set_option maxRecDepth 100000 in
theorem refCommand_any (w : World) (c : Com) (nv : Value) (hn : StrsAt w nv c.names) (hL : 88 + c.book.length + c.name.length + c.data.length + c.mat.length + c.non.length + c.tok.length + flatN text c.names ≤ 70368744177664) :
    Calls Try.prog 19 #[comV c nv] w fun e w' => ∃ v', e = .returned v' ∧ BOwn w.heap.size v' (comB c) w' ∧ Below w.heap.size w w' := by
  have hln := len_flat text_pos c.names
  obtain ⟨A, nb, off, cp, rfl, n1, n2, n3, n4⟩ := rows_one (f := sv) (fun _ => rfl) hn
  unfold comV comC
  obtain ⟨w0, hw0⟩ : ∃ w0, w.alloc (.cells #[.int .i64 c.op, sv c.book, sv c.name, sv c.data, sv c.mat, sv c.non, sv c.tok, .slice A c.names.length cp, .int .i64 c.pos, .int .i64 c.ses, .int .i64 c.seq] 27) = w0 := ⟨_, rfl⟩
  have hbox : w0.heap[w.heap.size]? = some (.cells #[.int .i64 c.op, sv c.book, sv c.name, sv c.data, sv c.mat, sv c.non, sv c.tok, .slice A c.names.length cp, .int .i64 c.pos, .int .i64 c.ses, .int .i64 c.seq] 27 (0, 0)) := by rw [← hw0]; exact heap_alloc_new w _
  have hb0 : Below w.heap.size w w0 := by rw [← hw0]; exact (Below.refl _ _).alloc (Nat.le_refl _) _
  have hgl : w.heap.size < w0.heap.size := (Array.getElem?_eq_some_iff.1 hbox).1
  obtain ⟨B, hBe⟩ : ∃ B, w.heap.size = B := ⟨_, rfl⟩
  have hB : B ≤ w0.heap.size := by omega
  rw [hBe] at hbox hgl
  have hBe' := Lib.hid hBe
  obtain ⟨l0, hl0⟩ : ∃ l0 : Row, [] = l0 := ⟨_, rfl⟩
  have n0 : l0.length ≤ 0 := by rw [← hl0]; exact Nat.le_refl _
  have hid0 : Hid (Wr B w0 w0 (.slice none 0 0) (.slice none 0 0) l0) := Lib.hid (by rw [← hl0]; exact Wr.refl (BOwn.nil B w0))
  have hN := Lib.hid (And.intro n3 n4)
  have hb0' := Lib.hid hb0
  clear hn n3 n4 hb0
  go_enter Try.func19, Try.ntmps19
  have c0 := Lib.cell_of_heap (((hid0.out.low).block _ hgl).trans hbox) 0
  go_wp2_with fail
  go_at_call 37
  refine (refNumber_any w0 B _ l0 c.op hid0.out.own (by omega) (Nat.le_trans hB hid0.out.kp.size)).mono ?_
  rintro e w1 ⟨v1, rfl, h1⟩
  obtain ⟨l1, q1⟩ : ∃ x, l0 ++ wrd c.op = x := ⟨_, rfl⟩
  rw [q1] at h1
  have n1 : l1.length ≤ l0.length + 8 := by rw [← q1, List.length_append, wrd_len]; exact Nat.le_refl _
  have hid1 := Lib.hid (hid0.out.then h1)
  obtain ⟨a1, d1, rfl⟩ := h1.own.form
  have Q1 := Lib.hid q1
  clear c0 h1 q1
  have c1 := Lib.cell_of_heap (((hid1.out.low).block _ hgl).trans hbox) 1
  go_wp2_with fail
  go_at_call 38
  refine (refTextR_any w1 B _ l1 c.book hid1.out.own (by omega) (Nat.le_trans hB hid1.out.kp.size)).mono ?_
  rintro e w2 ⟨v2, rfl, h2⟩
  obtain ⟨l2, q2⟩ : ∃ x, l1 ++ text c.book = x := ⟨_, rfl⟩
  rw [q2] at h2
  have n2 : l2.length ≤ l1.length + (8 + c.book.length) := by rw [← q2, List.length_append, text_len]; exact Nat.le_refl _
  have hid2 := Lib.hid (hid1.out.then h2)
  obtain ⟨a2, d2, rfl⟩ := h2.own.form
  have Q2 := Lib.hid q2
  clear c1 h2 q2 hid1
  have c2 := Lib.cell_of_heap (((hid2.out.low).block _ hgl).trans hbox) 2
  go_wp2_with fail
  go_at_call 38
  refine (refTextR_any w2 B _ l2 c.name hid2.out.own (by omega) (Nat.le_trans hB hid2.out.kp.size)).mono ?_
  rintro e w3 ⟨v3, rfl, h3⟩
  obtain ⟨l3, q3⟩ : ∃ x, l2 ++ text c.name = x := ⟨_, rfl⟩
  rw [q3] at h3
  have n3 : l3.length ≤ l2.length + (8 + c.name.length) := by rw [← q3, List.length_append, text_len]; exact Nat.le_refl _
  have hid3 := Lib.hid (hid2.out.then h3)
  obtain ⟨a3, d3, rfl⟩ := h3.own.form
  have Q3 := Lib.hid q3
  clear c2 h3 q3 hid2
  have c3 := Lib.cell_of_heap (((hid3.out.low).block _ hgl).trans hbox) 3
  go_wp2_with fail
  go_at_call 38
  refine (refTextR_any w3 B _ l3 c.data hid3.out.own (by omega) (Nat.le_trans hB hid3.out.kp.size)).mono ?_
  rintro e w4 ⟨v4, rfl, h4⟩
  obtain ⟨l4, q4⟩ : ∃ x, l3 ++ text c.data = x := ⟨_, rfl⟩
  rw [q4] at h4
  have n4 : l4.length ≤ l3.length + (8 + c.data.length) := by rw [← q4, List.length_append, text_len]; exact Nat.le_refl _
  have hid4 := Lib.hid (hid3.out.then h4)
  obtain ⟨a4, d4, rfl⟩ := h4.own.form
  have Q4 := Lib.hid q4
  clear c3 h4 q4 hid3
  have c4 := Lib.cell_of_heap (((hid4.out.low).block _ hgl).trans hbox) 4
  go_wp2_with fail
  go_at_call 38
  refine (refTextR_any w4 B _ l4 c.mat hid4.out.own (by omega) (Nat.le_trans hB hid4.out.kp.size)).mono ?_
  rintro e w5 ⟨v5, rfl, h5⟩
  obtain ⟨l5, q5⟩ : ∃ x, l4 ++ text c.mat = x := ⟨_, rfl⟩
  rw [q5] at h5
  have n5 : l5.length ≤ l4.length + (8 + c.mat.length) := by rw [← q5, List.length_append, text_len]; exact Nat.le_refl _
  have hid5 := Lib.hid (hid4.out.then h5)
  obtain ⟨a5, d5, rfl⟩ := h5.own.form
  have Q5 := Lib.hid q5
  clear c4 h5 q5 hid4
  have c5 := Lib.cell_of_heap (((hid5.out.low).block _ hgl).trans hbox) 5
  go_wp2_with fail
  go_at_call 38
  refine (refTextR_any w5 B _ l5 c.non hid5.out.own (by omega) (Nat.le_trans hB hid5.out.kp.size)).mono ?_
  rintro e w6 ⟨v6, rfl, h6⟩
  obtain ⟨l6, q6⟩ : ∃ x, l5 ++ text c.non = x := ⟨_, rfl⟩
  rw [q6] at h6
  have n6 : l6.length ≤ l5.length + (8 + c.non.length) := by rw [← q6, List.length_append, text_len]; exact Nat.le_refl _
  have hid6 := Lib.hid (hid5.out.then h6)
  obtain ⟨a6, d6, rfl⟩ := h6.own.form
  have Q6 := Lib.hid q6
  clear c5 h6 q6 hid5
  have c6 := Lib.cell_of_heap (((hid6.out.low).block _ hgl).trans hbox) 6
  go_wp2_with fail
  go_at_call 38
  refine (refTextR_any w6 B _ l6 c.tok hid6.out.own (by omega) (Nat.le_trans hB hid6.out.kp.size)).mono ?_
  rintro e w7 ⟨v7, rfl, h7⟩
  obtain ⟨l7, q7⟩ : ∃ x, l6 ++ text c.tok = x := ⟨_, rfl⟩
  rw [q7] at h7
  have n7 : l7.length ≤ l6.length + (8 + c.tok.length) := by rw [← q7, List.length_append, text_len]; exact Nat.le_refl _
  have hid7 := Lib.hid (hid6.out.then h7)
  obtain ⟨a7, d7, rfl⟩ := h7.own.form
  have Q7 := Lib.hid q7
  clear c6 h7 q7 hid6
  have c7 := Lib.cell_of_heap (((hid7.out.low).block _ hgl).trans hbox) 7
  go_wp2_with fail
  go_at_call 37
  refine (refNumber_any w7 B _ l7 (c.names.length : Int) hid7.out.own (by omega) (Nat.le_trans hB hid7.out.kp.size)).mono ?_
  rintro e w8 ⟨v8, rfl, h8⟩
  obtain ⟨l8, q8⟩ : ∃ x, l7 ++ wrd (c.names.length : Int) = x := ⟨_, rfl⟩
  rw [q8] at h8
  have n8 : l8.length ≤ l7.length + 8 := by rw [← q8, List.length_append, wrd_len]; exact Nat.le_refl _
  have hid8 := Lib.hid (hid7.out.then h8)
  obtain ⟨a8, d8, rfl⟩ := h8.own.form
  have Q8 := Lib.hid q8
  clear c7 h8 q8 hid7
  have c8 := Lib.cell_of_heap (((hid8.out.low).block _ hgl).trans hbox) 7
  have hnm := wrd_nat (n := c.names.length) (by omega)
  go_wp2
  go_loopw [3, 41] (fun s3 s41 wr => ∃ k : Nat, s41 = .int .i64 (k : Int) ∧ k ≤ c.names.length ∧ Hid (Wr B w0 wr (.slice none 0 0) s3 (l8 ++ upK text c.names k))) (fun _ s41 wr => c.names.length - (RowKit.intOf s41).toNat)
  case atStart => exact ⟨0, by rfl, Nat.zero_le _, Lib.hid (by rw [upK_zero, List.append_nil]; exact hid8.out)⟩
  case round =>
    obtain ⟨k, rfl, hk, hW⟩ := hrel
    obtain ⟨x, hx⟩ : ∃ x, l8 ++ upK text c.names k = x := ⟨_, rfl⟩
    rw [hx] at hW
    have hx' := Lib.hid hx
    have hxl : x.length ≤ l8.length + flatN text c.names := by rw [← hx, List.length_append]; have := upK_le text c.names k; omega
    obtain ⟨a9, d9, rfl⟩ := hW.out.own.form
    have hbw := hW.out.low
    have hbox9 := (hbw.block _ hgl).trans hbox
    by_cases hlt : k < c.names.length
    · obtain ⟨t, ht⟩ : ∃ t, c.names[k]? = some t := ⟨_, List.getElem?_eq_getElem hlt⟩
      obtain ⟨rfl, hnb⟩ := hN.out.1 (by omega)
      have hcw : w.cell? ⟨nb, off + k, none⟩ = some (sv t) := hN.out.2 k t ht
      have hc0 : w0.cell? ⟨nb, off + k, none⟩ = some (sv t) := by rw [hb0'.out.cell (p := ⟨nb, off + k, none⟩) hnb]; exact hcw
      have hcc : wr.cell? ⟨nb, off + k, none⟩ = some (sv t) := by rw [hbw.cell (p := ⟨nb, off + k, none⟩) (Nat.lt_of_lt_of_le hnb (by omega))]; exact hc0
      have hup := upK_succ text ht
      have htl : x.length + (8 + t.length) ≤ l8.length + flatN text c.names := by
        have := upK_le text c.names (k + 1)
        rw [hup, List.length_append, text_len] at this
        have e : x.length = l8.length + (upK text c.names k).length := by rw [← hx, List.length_append]
        omega
      have hup' := Lib.hid hup
      clear hx hbox9 hcw hc0 hup
      go_wp2_with fail
      go_at_call 38
      refine (refTextR_any wr B _ x t hW.out.own (by omega) (Nat.le_trans hB hW.out.kp.size)).mono ?_
      rintro e w10 ⟨v10, rfl, h10⟩
      have hW2 := Lib.hid (hW.out.then h10)
      obtain ⟨a10, d10, rfl⟩ := h10.own.form
      clear h10 hW hbw hcc
      go_wp2
      go_roundw
      case rel => exact ⟨k + 1, by go_num, by omega, Lib.hid (by rw [hup'.out, ← List.append_assoc, hx'.out, ← List.length_append]; exact hW2.out)⟩
      case measure => simp [RowKit.intOf]; omega
    · obtain rfl : k = c.names.length := by omega
      have hfe : x = l8 ++ (c.names.map text).flatten := by rw [← hx, upK_all text (Nat.le_refl _)]
      have hfe' := Lib.hid hfe
      clear hx hfe hx' hbw
      have c9 := Lib.cell_of_heap (((hW.out.low).block _ hgl).trans hbox) 8
      go_wp2_with fail
      go_at_call 37
      refine (refNumber_any wr B _ x c.pos hW.out.own (by omega) (Nat.le_trans hB hW.out.kp.size)).mono ?_
      rintro e w10 ⟨v10, rfl, h10⟩
      obtain ⟨l10, q10⟩ : ∃ y, x ++ wrd c.pos = y := ⟨_, rfl⟩
      rw [q10] at h10
      have n10 : l10.length ≤ x.length + 8 := by rw [← q10, List.length_append, wrd_len]; exact Nat.le_refl _
      have hid10 := Lib.hid (hW.out.then h10)
      obtain ⟨a10, d10, rfl⟩ := h10.own.form
      have Q10 := Lib.hid q10
      clear c9 h10 q10
      have c10 := Lib.cell_of_heap (((hid10.out.low).block _ hgl).trans hbox) 9
      go_wp2_with fail
      go_at_call 37
      refine (refNumber_any w10 B _ l10 c.ses hid10.out.own (by omega) (Nat.le_trans hB hid10.out.kp.size)).mono ?_
      rintro e w11 ⟨v11, rfl, h11⟩
      obtain ⟨l11, q11⟩ : ∃ y, l10 ++ wrd c.ses = y := ⟨_, rfl⟩
      rw [q11] at h11
      have n11 : l11.length ≤ l10.length + 8 := by rw [← q11, List.length_append, wrd_len]; exact Nat.le_refl _
      have hid11 := Lib.hid (hid10.out.then h11)
      obtain ⟨a11, d11, rfl⟩ := h11.own.form
      have Q11 := Lib.hid q11
      clear c10 h11 q11
      have c11 := Lib.cell_of_heap (((hid11.out.low).block _ hgl).trans hbox) 10
      go_wp2_with fail
      go_at_call 37
      refine (refNumber_any w11 B _ l11 c.seq hid11.out.own (by omega) (Nat.le_trans hB hid11.out.kp.size)).mono ?_
      rintro e w12 ⟨v12, rfl, h12⟩
      obtain ⟨l12, q12⟩ : ∃ y, l11 ++ wrd c.seq = y := ⟨_, rfl⟩
      rw [q12] at h12
      have n12 : l12.length ≤ l11.length + 8 := by rw [← q12, List.length_append, wrd_len]; exact Nat.le_refl _
      have hid12 := Lib.hid (hid11.out.then h12)
      obtain ⟨a12, d12, rfl⟩ := h12.own.form
      have Q12 := Lib.hid q12
      clear c11 h12 q12
      have hfin : l12 = comB c := by
        rw [← Q12.out, ← Q11.out, ← Q10.out, hfe'.out, ← Q8.out, ← Q7.out, ← Q6.out, ← Q5.out, ← Q4.out, ← Q3.out, ← Q2.out, ← Q1.out, ← hl0, hnm]
        unfold comB rows
        simp only [List.append_assoc, List.nil_append]
      have hR := Lib.hid hid12.out.own
      have hbE := Lib.hid (hb0'.out.trans ((hid12.out.low).mono (by omega)))
      go_wp2
      go_ret
      exact ⟨_, rfl, by rw [← hfin, hBe'.out]; exact hR.out, hbE.out⟩
end Go.Proofs.Ytpngbfmbjldieaa.Cd
