/-
  THE WALK OF calepinref15.Reply: a reply as bytes.
-/
import Derived.Test.YtpngbfmbjldieaaCodMem
import Derived.Test.YtpngbfmbjldieaaCodRefNum
set_option linter.unusedVariables false
namespace Go.Proofs.Ytpngbfmbjldieaa.Cd
open Go.Lib Go.RowKit
open Bo (Kp Row ownsRow_heap sv sv_data)
open Ly (BOwn Wr word text flag num word_len num_word word_take append_byte append_text)

theorem enB_len (e : En) : (enB e).length = 25 + e.name.length + e.data.length := by
  unfold enB
  rw [List.length_append, List.length_append, List.length_append, text_len, text_len, wrd_len]
  unfold flag
  simp
  omega
set_option maxHeartbeats 16000000 in
set_option maxRecDepth 100000 in
theorem refReply_any (w : World) (r : Rep) (ev : Value) (hn : EntsAt w ev r.ents) (hL : 88 + r.data.length + r.tok.length + flatN enB r.ents ≤ 70368744177664) :
    Calls Try.prog 18 #[repV r ev] w fun e w' => ∃ v', e = .returned v' ∧ BOwn w.heap.size v' (repB r) w' ∧ Below w.heap.size w w' := by
  have hln := len_flat enB_pos r.ents
  obtain ⟨A, nb, off, cp, rfl, n1, n2, n3, n4⟩ := hn
  unfold repV
  obtain ⟨w0, hw0⟩ : ∃ w0, w.alloc (.cells #[.int .i64 r.st, .int .i64 r.tag, sv r.data, .slice A r.ents.length cp, sv r.tok] 33) = w0 := ⟨_, rfl⟩
  have hbox : w0.heap[w.heap.size]? = some (.cells #[.int .i64 r.st, .int .i64 r.tag, sv r.data, .slice A r.ents.length cp, sv r.tok] 33 (0, 0)) := by rw [← hw0]; exact heap_alloc_new w _
  have hb0 : Below w.heap.size w w0 := by rw [← hw0]; exact (Below.refl _ _).alloc (Nat.le_refl _) _
  have hgl : w.heap.size < w0.heap.size := (Array.getElem?_eq_some_iff.1 hbox).1
  obtain ⟨B, hBe⟩ : ∃ B, w.heap.size = B := ⟨_, rfl⟩
  have hB : B ≤ w0.heap.size := by omega
  rw [hBe] at hbox hgl
  have hBe' := Lib.hid hBe
  obtain ⟨l0, hl0⟩ : ∃ l0 : Row, [] = l0 := ⟨_, rfl⟩
  have n0 : l0.length ≤ 0 := by rw [← hl0]; exact Nat.le_refl _
  have hid0 : Hid (Wr B w0 w0 (.slice none 0 0) (.slice none 0 0) l0) := Lib.hid (by rw [← hl0]; exact Wr.refl (BOwn.nil B w0))
  have hN := Lib.hid (And.intro n3 n4)
  have hb0' := Lib.hid hb0
  have hbox' := Lib.hid hbox
  clear n3 n4 hb0 hbox
  go_enter Try.func18, Try.ntmps18
  have c0 := Lib.cell_of_heap ((hid0.out.low.block _ hgl).trans hbox'.out) 0
  go_wp2_with fail
  go_at_call 37
  refine (refNumber_any w0 B _ l0 r.st hid0.out.own (by omega) (by have := hid0.out.kp.size; omega)).mono ?_
  rintro e w1 ⟨v1, rfl, h1⟩
  obtain ⟨l1, q1⟩ : ∃ y, l0 ++ wrd r.st = y := ⟨_, rfl⟩
  rw [q1] at h1
  have n1 : l1.length ≤ l0.length + 8 := by rw [← q1, List.length_append, wrd_len]; exact Nat.le_refl _
  have hid1 := Lib.hid (hid0.out.then h1)
  obtain ⟨a1, d1, rfl⟩ := h1.own.form
  have Q1 := Lib.hid q1
  clear c0 h1 q1
  have c1 := Lib.cell_of_heap ((hid1.out.low.block _ hgl).trans hbox'.out) 1
  go_wp2_with fail
  go_at_call 37
  refine (refNumber_any w1 B _ l1 r.tag hid1.out.own (by omega) (by have := hid1.out.kp.size; omega)).mono ?_
  rintro e w2 ⟨v2, rfl, h2⟩
  obtain ⟨l2, q2⟩ : ∃ y, l1 ++ wrd r.tag = y := ⟨_, rfl⟩
  rw [q2] at h2
  have n2 : l2.length ≤ l1.length + 8 := by rw [← q2, List.length_append, wrd_len]; exact Nat.le_refl _
  have hid2 := Lib.hid (hid1.out.then h2)
  obtain ⟨a2, d2, rfl⟩ := h2.own.form
  have Q2 := Lib.hid q2
  clear c1 h2 q2
  have c2 := Lib.cell_of_heap ((hid2.out.low.block _ hgl).trans hbox'.out) 2
  go_wp2_with fail
  go_at_call 38
  refine (refTextR_any w2 B _ l2 r.data hid2.out.own (by omega) (by have := hid2.out.kp.size; omega)).mono ?_
  rintro e w3 ⟨v3, rfl, h3⟩
  obtain ⟨l3, q3⟩ : ∃ y, l2 ++ text r.data = y := ⟨_, rfl⟩
  rw [q3] at h3
  have n3 : l3.length ≤ l2.length + (8 + r.data.length) := by rw [← q3, List.length_append, text_len]; exact Nat.le_refl _
  have hid3 := Lib.hid (hid2.out.then h3)
  obtain ⟨a3, d3, rfl⟩ := h3.own.form
  have Q3 := Lib.hid q3
  clear c2 h3 q3
  have c3 := Lib.cell_of_heap ((hid3.out.low.block _ hgl).trans hbox'.out) 3
  go_wp2_with fail
  go_at_call 37
  refine (refNumber_any w3 B _ l3 (r.ents.length : Int) hid3.out.own (by omega) (by have := hid3.out.kp.size; omega)).mono ?_
  rintro e w4 ⟨v4, rfl, h4⟩
  obtain ⟨l4, q4⟩ : ∃ y, l3 ++ wrd (r.ents.length : Int) = y := ⟨_, rfl⟩
  rw [q4] at h4
  have n4 : l4.length ≤ l3.length + 8 := by rw [← q4, List.length_append, wrd_len]; exact Nat.le_refl _
  have hid4 := Lib.hid (hid3.out.then h4)
  obtain ⟨a4, d4, rfl⟩ := h4.own.form
  have Q4 := Lib.hid q4
  clear c3 h4 q4
  have c4 := Lib.cell_of_heap ((hid4.out.low.block _ hgl).trans hbox'.out) 3
  have hnm := Lib.hid (wrd_nat (n := r.ents.length) (by omega))
  go_wp2
  go_loopw [3, 25] (fun s3 s25 wr => ∃ k : Nat, s25 = .int .i64 (k : Int) ∧ k ≤ r.ents.length ∧ Hid (Wr B w0 wr (.slice none 0 0) s3 (l4 ++ upK enB r.ents k))) (fun _ s25 wr => r.ents.length - (RowKit.intOf s25).toNat)
  case atStart => exact ⟨0, by rfl, Nat.zero_le _, Lib.hid (by rw [upK_zero, List.append_nil]; exact hid4.out)⟩
  case round =>
    obtain ⟨k, rfl, hk, hW⟩ := hrel
    obtain ⟨x, hx⟩ : ∃ x, l4 ++ upK enB r.ents k = x := ⟨_, rfl⟩
    rw [hx] at hW
    have hx' := Lib.hid hx
    have hxl : x.length ≤ l4.length + flatN enB r.ents := by rw [← hx, List.length_append]; have := upK_le enB r.ents k; omega
    obtain ⟨a9, d9, rfl⟩ := hW.out.own.form
    by_cases hlt : k < r.ents.length
    · obtain ⟨en, hen⟩ : ∃ en, r.ents[k]? = some en := ⟨_, List.getElem?_eq_getElem hlt⟩
      obtain ⟨rfl, hnb⟩ := hN.out.1 (by omega)
      have hnb0 : nb < w0.heap.size := by omega
      have hcl : ∀ q u, (encE en)[q]? = some u → wr.cell? ⟨nb, off + k * 4 + q, none⟩ = some u := fun q u hu => by
        rw [hW.out.low.cell (p := ⟨nb, off + k * 4 + q, none⟩) hnb0, hb0'.out.cell (p := ⟨nb, off + k * 4 + q, none⟩) hnb]
        exact hN.out.2 k en hen q u hu
      have e0 : wr.cell? ⟨nb, off + k * 4, none⟩ = some (.string ⟨en.name.toArray⟩) := hcl 0 _ rfl
      have e1 : wr.cell? ⟨nb, off + k * 4 + 1, none⟩ = some (.int .i64 en.tag) := hcl 1 _ rfl
      have e2 : wr.cell? ⟨nb, off + k * 4 + 2, none⟩ = some (.string ⟨en.data.toArray⟩) := hcl 2 _ rfl
      have e3 : wr.cell? ⟨nb, off + k * 4 + 3, none⟩ = some (.bool en.gone) := hcl 3 _ rfl
      have hup := Lib.hid (upK_succ enB hen)
      have htl : x.length + (25 + en.name.length + en.data.length) ≤ l4.length + flatN enB r.ents := by
        have := upK_le enB r.ents (k + 1)
        rw [hup.out, List.length_append, enB_len] at this
        have e : x.length = l4.length + (upK enB r.ents k).length := by rw [← hx, List.length_append]
        omega
      obtain ⟨wE, hwE⟩ : ∃ wE, wr.alloc (.cells #[.string ⟨en.name.toArray⟩, .int .i64 en.tag, .string ⟨en.data.toArray⟩, .bool en.gone] 76) = wE := ⟨_, rfl⟩
      have hboxE : wE.heap[wr.heap.size]? = some (.cells #[.string ⟨en.name.toArray⟩, .int .i64 en.tag, .string ⟨en.data.toArray⟩, .bool en.gone] 76 (0, 0)) := by rw [← hwE]; exact heap_alloc_new wr _
      have hbE : Below wr.heap.size wr wE := by rw [← hwE]; exact (Below.refl _ _).alloc (Nat.le_refl _) _
      have hgE : wr.heap.size < wE.heap.size := (Array.getElem?_eq_some_iff.1 hboxE).1
      have hWE := Lib.hid (hW.out.then_below hbE)
      have hne : (Value.slice a9 x.length d9).ownBlock ≠ some wr.heap.size := fun e => by
        have := (World.ownsRow.lt hW.out.own _ e).2
        omega
      obtain ⟨BE, hBE⟩ : ∃ BE, wr.heap.size = BE := ⟨_, rfl⟩
      have hszE : B ≤ BE := by rw [← hBE]; exact Nat.le_trans hB hW.out.kp.size
      rw [hBE] at hboxE hgE hne
      have hboxE' := Lib.hid hboxE
      have hne' := Lib.hid hne
      have hg4 : Hid (Wr B wE wE (.slice a9 x.length d9) (.slice a9 x.length d9) x) := Lib.hid (Wr.refl hWE.out.own)
      clear hx hboxE hbE hcl hen hW hne
      have c10 := Lib.cell_of_heap ((hg4.out.block hgE hne'.out).trans hboxE'.out) 0
      go_wp2_with fail
      go_at_call 38
      refine (refTextR_any wE B _ x en.name hg4.out.own (by omega) (by have := hg4.out.kp.size; omega)).mono ?_
      rintro e w11 ⟨v11, rfl, h11⟩
      obtain ⟨l11, q11⟩ : ∃ y, x ++ text en.name = y := ⟨_, rfl⟩
      rw [q11] at h11
      have n11 : l11.length ≤ x.length + (8 + en.name.length) := by rw [← q11, List.length_append, text_len]; exact Nat.le_refl _
      have hid11 := Lib.hid (hg4.out.then h11)
      obtain ⟨a11, d11, rfl⟩ := h11.own.form
      have Q11 := Lib.hid q11
      clear c10 h11 q11
      have c11 := Lib.cell_of_heap ((hid11.out.block hgE hne'.out).trans hboxE'.out) 1
      go_wp2_with fail
      go_at_call 37
      refine (refNumber_any w11 B _ l11 en.tag hid11.out.own (by omega) (by have := hid11.out.kp.size; omega)).mono ?_
      rintro e w12 ⟨v12, rfl, h12⟩
      obtain ⟨l12, q12⟩ : ∃ y, l11 ++ wrd en.tag = y := ⟨_, rfl⟩
      rw [q12] at h12
      have n12 : l12.length ≤ l11.length + 8 := by rw [← q12, List.length_append, wrd_len]; exact Nat.le_refl _
      have hid12 := Lib.hid (hid11.out.then h12)
      obtain ⟨a12, d12, rfl⟩ := h12.own.form
      have Q12 := Lib.hid q12
      clear c11 h12 q12
      have c12 := Lib.cell_of_heap ((hid12.out.block hgE hne'.out).trans hboxE'.out) 2
      go_wp2_with fail
      go_at_call 38
      refine (refTextR_any w12 B _ l12 en.data hid12.out.own (by omega) (by have := hid12.out.kp.size; omega)).mono ?_
      rintro e w13 ⟨v13, rfl, h13⟩
      obtain ⟨l13, q13⟩ : ∃ y, l12 ++ text en.data = y := ⟨_, rfl⟩
      rw [q13] at h13
      have n13 : l13.length ≤ l12.length + (8 + en.data.length) := by rw [← q13, List.length_append, text_len]; exact Nat.le_refl _
      have hid13 := Lib.hid (hid12.out.then h13)
      obtain ⟨a13, d13, rfl⟩ := h13.own.form
      have Q13 := Lib.hid q13
      clear c12 h13 q13
      have c13 := Lib.cell_of_heap ((hid13.out.block hgE hne'.out).trans hboxE'.out) 3
      have hlen : l13.length + 1 ≤ 140737488355328 := by omega
      have hsz : B ≤ w13.heap.size := by have := hid13.out.kp.size; omega
      obtain ⟨gn, hgn⟩ : ∃ gn, en.gone = gn := ⟨_, rfl⟩
      have hen2 : enB en = text en.name ++ (wrd en.tag ++ (text en.data ++ flag gn)) := by rw [← hgn]; rfl
      have hen2' := Lib.hid hen2
      rw [hgn] at c13
      clear hen2
      have hx2 : ∀ b, flag gn = b → l13 ++ b = l4 ++ upK enB r.ents (k + 1) := fun b hb => by
        rw [hup.out, hen2'.out, hb, ← Q13.out, ← Q12.out, ← Q11.out, ← hx'.out]
        simp only [List.append_assoc]
      have hx2' := Lib.hid hx2
      clear hx2
      cases gn
      · go_wp2_with (first
          | (at_builtin; refine append_byte 0 0 rfl rfl _ _ rfl B _ _ _ rfl rfl rfl hid13.out.own hlen hsz ?_; intro g cap w2 hw2; have hW2 := Lib.hid (hWE.out.then (hid13.out.then hw2)))
          | fail)
        clear hw2
        go_wp2
        go_roundw
        case rel => exact ⟨k + 1, by go_num, by omega, Lib.hid (by rw [← hx2'.out [0] rfl]; exact hW2.out)⟩
        case measure => simp [RowKit.intOf]; omega
      · go_wp2_with (first
          | (at_builtin; refine append_byte 1 1 rfl rfl _ _ rfl B _ _ _ rfl rfl rfl hid13.out.own hlen hsz ?_; intro g cap w2 hw2; have hW2 := Lib.hid (hWE.out.then (hid13.out.then hw2)))
          | fail)
        clear hw2
        go_wp2
        go_roundw
        case rel => exact ⟨k + 1, by go_num, by omega, Lib.hid (by rw [← hx2'.out [1] rfl]; exact hW2.out)⟩
        case measure => simp [RowKit.intOf]; omega
    · obtain rfl : k = r.ents.length := by omega
      have hfe' := Lib.hid (show x = l4 ++ (r.ents.map enB).flatten by rw [← hx, upK_all enB (Nat.le_refl _)])
      clear hx hx'
      have hid20 := hW
      have c20 := Lib.cell_of_heap ((hid20.out.low.block _ hgl).trans hbox'.out) 4
      go_wp2_with fail
      go_at_call 38
      refine (refTextR_any wr B _ x r.tok hid20.out.own (by omega) (by have := hid20.out.kp.size; omega)).mono ?_
      rintro e w21 ⟨v21, rfl, h21⟩
      obtain ⟨l21, q21⟩ : ∃ y, x ++ text r.tok = y := ⟨_, rfl⟩
      rw [q21] at h21
      have n21 : l21.length ≤ x.length + (8 + r.tok.length) := by rw [← q21, List.length_append, text_len]; exact Nat.le_refl _
      have hid21 := Lib.hid (hid20.out.then h21)
      obtain ⟨a21, d21, rfl⟩ := h21.own.form
      have Q21 := Lib.hid q21
      clear c20 h21 q21
      have hfin : l21 = repB r := by
        rw [← Q21.out, hfe'.out, ← Q4.out, ← Q3.out, ← Q2.out, ← Q1.out, ← hl0, hnm.out]
        unfold repB rows
        simp only [List.append_assoc, List.nil_append]
      have hR := Lib.hid hid21.out.own
      have hbE := Lib.hid (hb0'.out.trans ((hid21.out.low).mono (by omega)))
      go_wp2
      go_ret
      exact ⟨_, rfl, by rw [← hfin, hBe'.out]; exact hR.out, hbE.out⟩
end Go.Proofs.Ytpngbfmbjldieaa.Cd
