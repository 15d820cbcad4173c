/-
  THE WALK OF (*calepinref15.Tape).Reply.
-/
import Derived.Test.YtpngbfmbjldieaaCodRow
set_option linter.unusedVariables false
namespace Go.Proofs.Ytpngbfmbjldieaa.Cd
open Go.Lib Go.RowKit
open Bo (Kp Row ownsRow_heap sv sv_data)
open Ly (BOwn Wr word text flag num word_len num_word num_snoc num_lt info_parts)

set_option maxHeartbeats 32000000 in
set_option maxRecDepth 100000 in
theorem tpReply_any (w : World) (M tb : Nat) (full : Row) (s : St) (h : TpIs w M tb full s) (hl : full.length ≤ 1099511627776) (hM : M ≤ w.heap.size) (htb : tb < M) :
    Calls Try.prog 14 #[tp tb] w fun e w' => ∃ nv, e = .returned (repV (repS s).1 nv) ∧ EntsAt w' nv (repS s).1.ents ∧ TpIs w' M tb full (repS s).2 ∧ Kp [tb] w w' := by
  have hl2 := hl
  replace hl : full.length ≤ 140737488355328 := by omega
  obtain ⟨wa, hwa⟩ : ∃ x, w.alloc (.cells #[.int .i64 0, .int .i64 0, .string ⟨#[]⟩, .slice none 0 0, .string ⟨#[]⟩] 33) = x := ⟨_, rfl⟩
  obtain ⟨w0, hw0⟩ : ∃ x, wa.alloc (.cells #[.int .i64 0, .int .i64 0, .string ⟨#[]⟩, .slice none 0 0, .string ⟨#[]⟩] 33) = x := ⟨_, rfl⟩
  have hba : Below w.heap.size w wa := by rw [← hwa]; exact (Below.refl _ _).alloc (Nat.le_refl _) _
  have hb0 : Below wa.heap.size wa w0 := by rw [← hw0]; exact (Below.refl _ _).alloc (Nat.le_refl _) _
  have hra : wa.heap[w.heap.size]? = some (.cells #[.int .i64 0, .int .i64 0, .string ⟨#[]⟩, .slice none 0 0, .string ⟨#[]⟩] 33 (0, 0)) := by rw [← hwa]; exact heap_alloc_new w _
  have hcb : w0.heap[wa.heap.size]? = some (.cells #[.int .i64 0, .int .i64 0, .string ⟨#[]⟩, .slice none 0 0, .string ⟨#[]⟩] 33 (0, 0)) := by rw [← hw0]; exact heap_alloc_new wa _
  have hr0 := (hb0.block _ (Array.getElem?_eq_some_iff.1 hra).1).trans hra
  have hlt : w.heap.size < wa.heap.size := (Array.getElem?_eq_some_iff.1 hra).1
  have hbw : Below w.heap.size w w0 := hba.trans (hb0.mono hba.size)
  obtain ⟨R, hR⟩ : ∃ R, w.heap.size = R := ⟨_, rfl⟩
  obtain ⟨CB, hCB⟩ : ∃ CB, wa.heap.size = CB := ⟨_, rfl⟩
  rw [hR] at hr0 hlt
  rw [hCB] at hcb hlt
  obtain ⟨s0, hs0⟩ : ∃ x, s = x := ⟨_, rfl⟩
  have hS0 : Hid (TS w M tb full s0 R CB 33 #[.int .i64 0, .int .i64 0, .string ⟨#[]⟩, .slice none 0 0, .string ⟨#[]⟩] #[.int .i64 0, .int .i64 0, .string ⟨#[]⟩, .slice none 0 0, .string ⟨#[]⟩] w0) := Lib.hid ⟨by rw [← hs0]; exact h.kept hbw, hr0, hcb, Kp.of_below hbw, htb, hM, by omega, hlt⟩
  have hlt' := Lib.hid hlt
  obtain ⟨goal, hgoal⟩ : ∃ g, repS s = g := ⟨_, rfl⟩
  rw [hgoal]
  rw [hs0] at hgoal
  have hgoal' := Lib.hid hgoal
  clear h hba hb0 hra hcb hr0 hbw hs0 hgoal hlt
  go_enter Try.func14, Try.ntmps14
  go_wp2_with fail
  go_at_call 33
  refine (tpNumber_any w0 M tb full s0 hS0.out.tp hl).mono ?_
  rintro e u0 ⟨rfl, hT, hK⟩
  obtain ⟨Na, hNa⟩ : ∃ N, (numS s0).1 = N := ⟨_, rfl⟩
  have hwa : IntKind.i64.wrap (Na : Int) = (intS s0).1 := by rw [← hNa]; exact wrap_toI (numS_lt s0)
  obtain ⟨za, hza⟩ : ∃ z, (intS s0).1 = z := ⟨_, rfl⟩
  obtain ⟨s1, hs1⟩ : ∃ x, (intS s0).2 = x := ⟨_, rfl⟩
  rw [show (numS s0).2 = s1 from hs1] at hT
  rw [hza] at hwa
  rw [hNa]
  have hU0 := hS0.out.call hT hK
  have c0 := hU0.cell 0
  have f0 := hU0.froz 0
  obtain ⟨w1, hw1⟩ : ∃ x, u0.setCell ⟨CB, 0, none⟩ (.int .i64 za) = x := ⟨_, rfl⟩
  have hS1 : Hid (TS w M tb full s1 R CB 33 #[.int .i64 0, .int .i64 0, .string ⟨#[]⟩, .slice none 0 0, .string ⟨#[]⟩] #[.int .i64 za, .int .i64 0, .string ⟨#[]⟩, .slice none 0 0, .string ⟨#[]⟩] w1) := Lib.hid (by rw [← hw1]; exact hU0.set 0 _ rfl)
  have E0 := Lib.hid (And.intro hza hs1)
  clear hT hK hU0 hza hs1 hNa hS0
  go_wp2_with fail
  go_at_call 33
  refine (tpNumber_any w1 M tb full s1 hS1.out.tp hl).mono ?_
  rintro e u1 ⟨rfl, hT, hK⟩
  obtain ⟨Nb, hNb⟩ : ∃ N, (numS s1).1 = N := ⟨_, rfl⟩
  have hwb : IntKind.i64.wrap (Nb : Int) = (intS s1).1 := by rw [← hNb]; exact wrap_toI (numS_lt s1)
  obtain ⟨zb, hzb⟩ : ∃ z, (intS s1).1 = z := ⟨_, rfl⟩
  obtain ⟨s2, hs2⟩ : ∃ x, (intS s1).2 = x := ⟨_, rfl⟩
  rw [show (numS s1).2 = s2 from hs2] at hT
  rw [hzb] at hwb
  rw [hNb]
  have hU1 := hS1.out.call hT hK
  have c1 := hU1.cell 1
  have f1 := hU1.froz 1
  obtain ⟨w2, hw2⟩ : ∃ x, u1.setCell ⟨CB, 1, none⟩ (.int .i64 zb) = x := ⟨_, rfl⟩
  have hS2 : Hid (TS w M tb full s2 R CB 33 #[.int .i64 0, .int .i64 0, .string ⟨#[]⟩, .slice none 0 0, .string ⟨#[]⟩] #[.int .i64 za, .int .i64 zb, .string ⟨#[]⟩, .slice none 0 0, .string ⟨#[]⟩] w2) := Lib.hid (by rw [← hw2]; exact hU1.set 1 _ rfl)
  have E1 := Lib.hid (And.intro hzb hs2)
  clear hT hK hU1 hzb hs2 hNb hS1
  go_wp2_with fail
  go_at_call 34
  refine (tpText_any w2 M tb full s2 hS2.out.tp hl).mono ?_
  rintro e u2 ⟨rfl, hT, hK⟩
  obtain ⟨yc, hzc⟩ : ∃ z, (txtS s2).1 = z := ⟨_, rfl⟩
  obtain ⟨s3, hs3⟩ : ∃ x, (txtS s2).2 = x := ⟨_, rfl⟩
  rw [hs3] at hT
  rw [hzc]
  unfold sv
  have hU2 := hS2.out.call hT hK
  have c2 := hU2.cell 2
  have f2 := hU2.froz 2
  obtain ⟨w3, hw3⟩ : ∃ x, u2.setCell ⟨CB, 2, none⟩ (.string ⟨yc.toArray⟩) = x := ⟨_, rfl⟩
  have hS3 : Hid (TS w M tb full s3 R CB 33 #[.int .i64 0, .int .i64 0, .string ⟨#[]⟩, .slice none 0 0, .string ⟨#[]⟩] #[.int .i64 za, .int .i64 zb, .string ⟨yc.toArray⟩, .slice none 0 0, .string ⟨#[]⟩] w3) := Lib.hid (by rw [← hw3]; exact hU2.set 2 _ rfl)
  have E2 := Lib.hid (And.intro hzc hs3)
  clear hT hK hU2 hzc hs3 hS2
  go_wp2_with fail
  go_at_call 35
  refine (tpCount_any w3 M tb full s3 hS3.out.tp hl).mono ?_
  rintro e w4 ⟨rfl, hT, hK⟩
  obtain ⟨n, hn⟩ : ∃ n, (cntS s3).1 = n := ⟨_, rfl⟩
  obtain ⟨s4, hs4⟩ : ∃ x, (cntS s3).2 = x := ⟨_, rfl⟩
  rw [hs4] at hT
  rw [hn]
  have hnl : n ≤ full.length := by
    cases hq : s4 with
    | none =>
      have : (cntS s3).1 = 0 := by
        unfold cntS at hs4 ⊢
        rw [hq] at hs4
        revert hs4
        generalize (numS s3).2 = y
        cases y with
        | none => intro _; rfl
        | some y =>
          obtain ⟨l, f⟩ := y
          show (if l.length < (numS s3).1 then ((0 : Nat), (none : St)) else ((numS s3).1, some (l, f))).2 = none → (if l.length < (numS s3).1 then ((0 : Nat), (none : St)) else ((numS s3).1, some (l, f))).1 = 0
          split
          · intro _; rfl
          · intro h; cases h
      omega
    | some y =>
      obtain ⟨l, f⟩ := y
      have hy : (numS s3).2 = some (l, f) ∧ n ≤ l.length := by
        unfold cntS at hs4 hn
        rw [hq] at hs4
        revert hs4 hn
        generalize (numS s3).2 = y
        cases y with
        | none => intro _ h; cases h
        | some y =>
          obtain ⟨l', f'⟩ := y
          show (if l'.length < (numS s3).1 then ((0 : Nat), (none : St)) else ((numS s3).1, some (l', f'))).1 = n → (if l'.length < (numS s3).1 then ((0 : Nat), (none : St)) else ((numS s3).1, some (l', f'))).2 = some (l, f) → _
          split
          · intro _ h; cases h
          · rename_i hlt
            intro h1 h2
            injection h2 with h2
            injection h2 with h2 h3
            subst h2 h3
            exact ⟨rfl, by simp only at h1; omega⟩
      obtain ⟨A, b, off, c, k, sh, fm, hRx, hsx⟩ := hT
      rw [hq] at hsx
      unfold stOf at hsx
      split at hsx
      · cases hsx
      · injection hsx with hsx
        injection hsx with hsx _
        have := hy.2
        rw [hsx, List.length_drop] at this
        omega
  have hS4 := Lib.hid (hS3.out.call hT hK)
  have E3 := Lib.hid (And.intro hn hs4)
  have hN0 : Hid (w4.ownsRow (CB + 1) 76 4 (.slice none 0 0) ([] : List En).length (([] : List En).flatMap encE)) := Lib.hid (World.ownsRow_nil w4 _ _ 4)
  obtain ⟨rgoal, hrg⟩ : ∃ g, rowS enS s3 = g := ⟨_, rfl⟩
  have hgo : Going enS rgoal [] n s4 := by
    rw [← hrg]
    unfold rowS
    rw [hn, hs4]
    exact Going.start _ _ _
  have hgo' := Lib.hid hgo
  have hrg' := Lib.hid hrg
  clear hT hK hn hs4 hgo hrg hS3
  go_wp2
  go_loopw [5] (fun s5 wr => ∃ (k : Nat) (acc : List En) (sr : St) (ao : Option Addr) (ac : Nat), s5 = .int .i64 (k : Int) ∧ k ≤ n ∧ acc.length = k ∧ Hid (Going enS rgoal acc (n - k) sr) ∧ Hid (TS w M tb full sr R CB 33 #[.int .i64 0, .int .i64 0, .string ⟨#[]⟩, .slice none 0 0, .string ⟨#[]⟩] #[.int .i64 za, .int .i64 zb, .string ⟨yc.toArray⟩, .slice ao acc.length ac, .string ⟨#[]⟩] wr) ∧ Hid (wr.ownsRow (CB + 1) 76 4 (.slice ao acc.length ac) acc.length (acc.flatMap encE))) (fun s5 _ => n - (RowKit.intOf s5).toNat)
  case atStart => exact ⟨0, [], s4, none, 0, by rfl, Nat.zero_le _, rfl, hgo', hS4, hN0⟩
  case round =>
    obtain ⟨k, acc, s9, ao, ac, rfl, hk, hak, hG, hS9, hO⟩ := hrel
    obtain ⟨A, b, off, c, kk, sh, fm, hRx, hsx⟩ := hS9.out.tp
    have x2 := Lib.cell_of_heap hRx.cells 2
    have hak' := Lib.hid hak
    have hsx' := Lib.hid hsx
    clear hRx hak hsx
    have hgone : ((¬ (k : Int) < (n : Int)) ∨ ((k : Int) < (n : Int) ∧ sh = true)) ∨ ((k : Int) < (n : Int) ∧ sh = false) := by
      cases sh <;> simp <;> omega
    rcases hgone with hgo | ⟨hlt, rfl⟩
    · have hE8 : Hid (rowS enS s3 = (acc, s9)) := Lib.hid (by
        rw [hrg'.out]
        rcases hgo with hge | ⟨_, rfl⟩
        · have h1 := hG.out
          rw [show n - k = 0 by omega] at h1
          exact h1.fin
        · have h1 := hG.out
          have h2 := hsx'.out
          unfold stOf at h2
          simp only [if_true] at h2
          rw [h2] at h1 ⊢
          exact h1.gone)
      have hO9 := hO
      clear hG hrg'
      rcases hgo with hge | ⟨hlt, rfl⟩
      all_goals
        go_wp2_with fail
        go_at_call 34
        refine (tpText_any wr M tb full s9 hS9.out.tp hl).mono ?_
        rintro e u9 ⟨rfl, hT, hK⟩
        obtain ⟨yi, hzi⟩ : ∃ z, (txtS s9).1 = z := ⟨_, rfl⟩
        obtain ⟨s10, hs10⟩ : ∃ x, (txtS s9).2 = x := ⟨_, rfl⟩
        rw [hs10] at hT
        rw [hzi]
        unfold sv
        have hU9 := hS9.out.call hT hK
        have c9 := hU9.cell 4
        have f9 := hU9.froz 4
        obtain ⟨w10, hw10⟩ : ∃ x, u9.setCell ⟨CB, 4, none⟩ (.string ⟨yi.toArray⟩) = x := ⟨_, rfl⟩
        have hS10 : Hid (TS w M tb full s10 R CB 33 #[.int .i64 0, .int .i64 0, .string ⟨#[]⟩, .slice none 0 0, .string ⟨#[]⟩] #[.int .i64 za, .int .i64 zb, .string ⟨yc.toArray⟩, .slice ao acc.length ac, .string ⟨yi.toArray⟩] w10) := Lib.hid (by rw [← hw10]; exact hU9.set 4 _ rfl)
        have E9 := Lib.hid (And.intro hzi hs10)
        have hOu := ownsRow_heap hO9.out fun g hg => hK.block g (World.ownsRow.lt hO9.out g hg).2 (by have := (World.ownsRow.lt hO9.out g hg).1; have := hS9.out.lo; simp; omega)
        have hO10 := Lib.hid (show w10.ownsRow (CB + 1) 76 4 (.slice ao acc.length ac) acc.length (acc.flatMap encE) by rw [← hw10]; exact ownsRow_heap hOu fun q hq => Below.heap_setCell _ _ _ q (by have := (World.ownsRow.lt hO9.out q hq).1; show q ≠ CB; omega))
        clear hOu hO9
        clear hT hK hU9 hzi hs10 hS9
        have x0 := hS10.out.cell 0
        have r0 := Lib.cell_of_heap hS10.out.rbk 0
        have fr0 := Lib.frozen_of_heap hS10.out.rbk 0
        have x1 := hS10.out.cell 1
        have r1 := Lib.cell_of_heap hS10.out.rbk 1
        have fr1 := Lib.frozen_of_heap hS10.out.rbk 1
        have x2 := hS10.out.cell 2
        have r2 := Lib.cell_of_heap hS10.out.rbk 2
        have fr2 := Lib.frozen_of_heap hS10.out.rbk 2
        have x3 := hS10.out.cell 3
        have r3 := Lib.cell_of_heap hS10.out.rbk 3
        have fr3 := Lib.frozen_of_heap hS10.out.rbk 3
        have x4 := hS10.out.cell 4
        have r4 := Lib.cell_of_heap hS10.out.rbk 4
        have fr4 := Lib.frozen_of_heap hS10.out.rbk 4
        have hg := Lib.hid (show goal = (⟨za, zb, yc, acc, yi⟩, s10) by
          rw [← hgoal'.out]
          unfold repS
          simp only [E0.out.1, E0.out.2, E1.out.1, E1.out.2, E2.out.1, E2.out.2, hE8.out, E9.out.1, E9.out.2])
        have hF := hS10.out.fin [.int .i64 za, .int .i64 zb, .string ⟨yc.toArray⟩, .slice ao acc.length ac, .string ⟨yi.toArray⟩] rfl
        have hrow := rows_of (enc := encE) (fun _ => rfl) (by decide) (show (setAll w10 R 0 [.int .i64 za, .int .i64 zb, .string ⟨yc.toArray⟩, .slice ao acc.length ac, .string ⟨yi.toArray⟩]).ownsRow (CB + 1) 76 4 (.slice ao acc.length ac) acc.length (acc.flatMap encE) from ownsRow_heap hO10.out fun q hq => setAll_other (by have := (World.ownsRow.lt hO10.out q hq).1; have := hS10.out.lo; omega) _ _ _)
        simp only [setAll, Nat.reduceAdd, Nat.zero_add] at hF hrow
        have hF' := Lib.hid (And.intro hF hrow)
        clear hF hrow
        go_wp2
        have hres := fun tm (hp : tm.getD 2 undef = .pointer (some ⟨R, 0, none⟩)) => results_cell_row (fn := Try.f14) (p := 2) (ty := 33) rfl tm _ R _ _ _ _ hp hF'.out.1.1 Try.underlying33 rfl (by kernel_rfl)
        refine bodyPost_ret (hres _ rfl) rfl ⟨.slice ao acc.length ac, ?_, ?_, ?_, hF'.out.1.2.2⟩
        · rw [hg.out]; rfl
        · rw [hg.out]; exact hF'.out.2
        · rw [hg.out]; exact hF'.out.1.2.1
    · obtain ⟨m, hm⟩ : ∃ m, n - k = m + 1 := ⟨n - k - 1, by omega⟩
      have h2 := hsx'.out
      unfold stOf at h2
      simp only [Bool.false_eq_true, if_false] at h2
      have hG2 := hG.out
      rw [hm, h2] at hG2
      have hG3 := hG2.step
      rw [← h2] at hG3
      have hm' := Lib.hid hm
      have hG3' := Lib.hid hG3
      obtain ⟨EB, hEB⟩ : ∃ EB, wr.heap.size = EB := ⟨_, rfl⟩
      obtain ⟨w20, hw20⟩ : ∃ x, wr.alloc (.cells #[.string ⟨#[]⟩, .int .i64 0, .string ⟨#[]⟩, .bool false] 76) = x := ⟨_, rfl⟩
      have hE0 := TE.make hS9.out hO.out #[.string ⟨#[]⟩, .int .i64 0, .string ⟨#[]⟩, .bool false]
      rw [hw20, hEB] at hE0
      obtain ⟨s20, hs20⟩ : ∃ x, s9 = x := ⟨_, rfl⟩
      rw [hs20] at hE0
      have hs20' := Lib.hid hs20
      have hE20 := Lib.hid hE0
      clear h2 hG2 hG hsx' hm hG3 hE0 hs20 hS9 hO
      go_wp2_with fail
      go_at_call 34
      refine (tpText_any w20 M tb full s20 hE20.out.ts.tp hl).mono ?_
      rintro e u20 ⟨rfl, hT, hK⟩
      obtain ⟨yp, hzp⟩ : ∃ z, (txtS s20).1 = z := ⟨_, rfl⟩
      obtain ⟨s21, hs21⟩ : ∃ x, (txtS s20).2 = x := ⟨_, rfl⟩
      rw [hs21] at hT
      rw [hzp]
      unfold sv
      have hU20 := hE20.out.call hT hK
      have c20 := hU20.cell 0
      have f20 := hU20.froz 0
      obtain ⟨w21, hw21⟩ : ∃ x, u20.setCell ⟨EB, 0, none⟩ (.string ⟨yp.toArray⟩) = x := ⟨_, rfl⟩
      have hE21 : Hid (TE w M tb full s21 R CB 33 #[.int .i64 0, .int .i64 0, .string ⟨#[]⟩, .slice none 0 0, .string ⟨#[]⟩] #[.int .i64 za, .int .i64 zb, .string ⟨yc.toArray⟩, .slice ao acc.length ac, .string ⟨#[]⟩] EB 76 #[.string ⟨yp.toArray⟩, .int .i64 0, .string ⟨#[]⟩, .bool false] 4 (.slice ao acc.length ac) acc.length (acc.flatMap encE) w21) := Lib.hid (by rw [← hw21]; exact hU20.set 0 _ rfl)
      have E20 := Lib.hid (And.intro hzp hs21)
      clear hT hK hU20 hzp hs21 hE20
      go_wp2_with fail
      go_at_call 33
      refine (tpNumber_any w21 M tb full s21 hE21.out.ts.tp hl).mono ?_
      rintro e u21 ⟨rfl, hT, hK⟩
      obtain ⟨Nq, hNq⟩ : ∃ N, (numS s21).1 = N := ⟨_, rfl⟩
      have hwq : IntKind.i64.wrap (Nq : Int) = (intS s21).1 := by rw [← hNq]; exact wrap_toI (numS_lt s21)
      obtain ⟨zq, hzq⟩ : ∃ z, (intS s21).1 = z := ⟨_, rfl⟩
      obtain ⟨s22, hs22⟩ : ∃ x, (intS s21).2 = x := ⟨_, rfl⟩
      rw [show (numS s21).2 = s22 from hs22] at hT
      rw [hzq] at hwq
      rw [hNq]
      have hU21 := hE21.out.call hT hK
      have c21 := hU21.cell 1
      have f21 := hU21.froz 1
      obtain ⟨w22, hw22⟩ : ∃ x, u21.setCell ⟨EB, 1, none⟩ (.int .i64 zq) = x := ⟨_, rfl⟩
      have hE22 : Hid (TE w M tb full s22 R CB 33 #[.int .i64 0, .int .i64 0, .string ⟨#[]⟩, .slice none 0 0, .string ⟨#[]⟩] #[.int .i64 za, .int .i64 zb, .string ⟨yc.toArray⟩, .slice ao acc.length ac, .string ⟨#[]⟩] EB 76 #[.string ⟨yp.toArray⟩, .int .i64 zq, .string ⟨#[]⟩, .bool false] 4 (.slice ao acc.length ac) acc.length (acc.flatMap encE) w22) := Lib.hid (by rw [← hw22]; exact hU21.set 1 _ rfl)
      have E21 := Lib.hid (And.intro hzq hs22)
      clear hT hK hU21 hzq hs22 hNq hE21
      go_wp2_with fail
      go_at_call 34
      refine (tpText_any w22 M tb full s22 hE22.out.ts.tp hl).mono ?_
      rintro e u22 ⟨rfl, hT, hK⟩
      obtain ⟨yr, hzr⟩ : ∃ z, (txtS s22).1 = z := ⟨_, rfl⟩
      obtain ⟨s23, hs23⟩ : ∃ x, (txtS s22).2 = x := ⟨_, rfl⟩
      rw [hs23] at hT
      rw [hzr]
      unfold sv
      have hU22 := hE22.out.call hT hK
      have c22 := hU22.cell 2
      have f22 := hU22.froz 2
      obtain ⟨w23, hw23⟩ : ∃ x, u22.setCell ⟨EB, 2, none⟩ (.string ⟨yr.toArray⟩) = x := ⟨_, rfl⟩
      have hE23 : Hid (TE w M tb full s23 R CB 33 #[.int .i64 0, .int .i64 0, .string ⟨#[]⟩, .slice none 0 0, .string ⟨#[]⟩] #[.int .i64 za, .int .i64 zb, .string ⟨yc.toArray⟩, .slice ao acc.length ac, .string ⟨#[]⟩] EB 76 #[.string ⟨yp.toArray⟩, .int .i64 zq, .string ⟨yr.toArray⟩, .bool false] 4 (.slice ao acc.length ac) acc.length (acc.flatMap encE) w23) := Lib.hid (by rw [← hw23]; exact hU22.set 2 _ rfl)
      have E22 := Lib.hid (And.intro hzr hs23)
      clear hT hK hU22 hzr hs23 hE22
      go_wp2_with fail
      go_at_call 36
      refine (tpByte_any w23 M tb full s23 2 hE23.out.ts.tp hl (by decide)).mono ?_
      rintro e u23 ⟨rfl, hT, hK⟩
      obtain ⟨N, hN⟩ : ∃ N, (bytS s23).1 = N := ⟨_, rfl⟩
      obtain ⟨gz, hgz⟩ : ∃ g, (flgS s23).1 = g := ⟨_, rfl⟩
      obtain ⟨s24, hs24⟩ : ∃ x, (flgS s23).2 = x := ⟨_, rfl⟩
      have hgN : ((N : Int) == 1) = gz := by
        rw [← hgz]
        show _ = decide ((bytS s23).1 = 1)
        rw [hN]
        by_cases h1 : N = 1
        · rw [decide_eq_true h1, h1]; rfl
        · rw [decide_eq_false h1, beq_eq_false_iff_ne]; omega
      rw [show wrong (decide (2 ≤ (bytS s23).1)) (bytS s23).2 = s24 from hs24] at hT
      rw [hN]
      have hU := hE23.out.call hT hK
      have c3 := hU.cell 3
      have f3 := hU.froz 3
      obtain ⟨w24, hw24⟩ : ∃ x, u23.setCell ⟨EB, 3, none⟩ (.bool gz) = x := ⟨_, rfl⟩
      have hE24 : Hid (TE w M tb full s24 R CB 33 #[.int .i64 0, .int .i64 0, .string ⟨#[]⟩, .slice none 0 0, .string ⟨#[]⟩] #[.int .i64 za, .int .i64 zb, .string ⟨yc.toArray⟩, .slice ao acc.length ac, .string ⟨#[]⟩] EB 76 #[.string ⟨yp.toArray⟩, .int .i64 zq, .string ⟨yr.toArray⟩, .bool gz] 4 (.slice ao acc.length ac) acc.length (acc.flatMap encE) w24) := Lib.hid (by rw [← hw24]; exact hU.set 3 _ rfl)
      have E23 := Lib.hid (And.intro hgz hs24)
      have d0 := hE24.out.cell 0
      have d1 := hE24.out.cell 1
      have d2 := hE24.out.cell 2
      have d3 := hE24.out.cell 3
      have d4 := hE24.out.ts.cell 3
      have hlen : (acc.length + 1) * 48 ≤ 140737488355328 := by have := hak'.out; omega
      have hmax : acc.length + 1 ≤ maxLen := by unfold maxLen; have := hak'.out; omega
      have hcbl := (Array.getElem?_eq_some_iff.1 hE24.out.ts.cbk).1
      clear hT hK hN hgz hs24 hU hE23
      go_wp2_with (first
        | (at_builtin; refine append_el (enc := encE) (size := 4) (bytes := 48) (et := 76) (st := 31) (z := .agg #[.string ⟨#[]⟩, .int .i64 0, .string ⟨#[]⟩, .bool false]) Try.underlying31 infoEnt rfl (fun _ => rfl) (fun x u hu => by simp [encE, sv] at hu; rcases hu with hu | hu | hu | hu <;> (rw [hu]; rfl)) (by decide) (⟨yp, zq, yr, gz⟩ : En) rfl rfl _ _ rfl (CB + 1) _ acc _ rfl rfl rfl hE24.out.own hlen hmax (by omega) ?_; intro g cap w2 hw2; have hW2 := Lib.hid hw2; have hV := hE24.out.ts.row hW2.out.kp (fun g hg => (World.ownsRow.lt hE24.out.own g hg).1); have v7 := hV.cell 3; have g7 := hV.froz 3)
        | fail)
      have hO2 := hW2.out.own
      have hen : Hid (enS s9 = (⟨yp, zq, yr, gz⟩, s24)) := Lib.hid (by
        rw [hs20'.out]
        unfold enS
        simp only [E20.out.1, E20.out.2, E21.out.1, E21.out.2, E22.out.1, E22.out.2, E23.out.1, E23.out.2])
      have hG4 := hG3'.out
      rw [hen.out] at hG4
      have hG4' := Lib.hid hG4
      have hal : (acc ++ [(⟨yp, zq, yr, gz⟩ : En)]).length = acc.length + 1 := by simp
      have hrel2 : Hid (TS w M tb full s24 R CB 33 #[.int .i64 0, .int .i64 0, .string ⟨#[]⟩, .slice none 0 0, .string ⟨#[]⟩] #[.int .i64 za, .int .i64 zb, .string ⟨yc.toArray⟩, .slice (some ⟨g, 0, none⟩) (acc.length + 1) cap, .string ⟨#[]⟩] (w2.setCell ⟨CB, 3, none⟩ (.slice (some ⟨g, 0, none⟩) (acc.length + 1) cap)) ∧ (w2.setCell ⟨CB, 3, none⟩ (.slice (some ⟨g, 0, none⟩) (acc.length + 1) cap)).ownsRow (CB + 1) 76 4 (.slice (some ⟨g, 0, none⟩) (acc.length + 1) cap) (acc ++ [(⟨yp, zq, yr, gz⟩ : En)]).length ((acc ++ [(⟨yp, zq, yr, gz⟩ : En)]).flatMap encE)) :=
        Lib.hid ⟨hV.set 3 _ rfl, ownsRow_heap hO2 fun q hq => Below.heap_setCell _ _ _ q (by have := (World.ownsRow.lt hO2 q hq).1; show q ≠ CB; omega)⟩
      have hal' := Lib.hid hal
      clear hw2 hV hO2 hal hG4
      go_wp2
      go_roundw
      case rel => exact ⟨k + 1, acc ++ [(⟨yp, zq, yr, gz⟩ : En)], s24, some ⟨g, 0, none⟩, cap, by go_num, by omega, by rw [hal'.out, hak'.out], Lib.hid (by rw [show n - (k + 1) = m by have := hm'.out; omega]; exact hG4'.out), Lib.hid (by rw [hal'.out]; exact hrel2.out.1), Lib.hid (by have := hrel2.out.2; rw [hal'.out] at this ⊢; exact this)⟩
      case measure => simp [RowKit.intOf]; omega
end Go.Proofs.Ytpngbfmbjldieaa.Cd
