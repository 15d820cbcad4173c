/-
  THE WALK OF (*calepinref15.Tape).Command.
-/
import Derived.Test.YtpngbfmbjldieaaCodRow
import Derived.Deep.Onto
set_option linter.unusedVariables false
namespace Go.Proofs.Ytpngbfmbjldieaa.Cd
open Go.Lib Go.RowKit
open Bo (Kp Row ownsRow_heap sv sv_data)
open Ly (BOwn Wr word text flag num word_len num_word num_snoc num_lt info_parts)

set_option maxHeartbeats 32000000 in
set_option maxRecDepth 100000 in
theorem tpCommand_any (w : World) (M tb : Nat) (full : Row) (s : St) (h : TpIs w M tb full s) (hl : full.length ≤ 1099511627776) (hM : M ≤ w.heap.size) (htb : tb < M) (B0 : Nat) (hB0 : B0 ≤ w.heap.size) :
    Calls Try.prog 13 #[tp tb] w fun e w' => ∃ nv, e = .returned (comV (comS s).1 nv) ∧ w'.ownsRow B0 9 1 nv (comS s).1.names.length ((comS s).1.names.flatMap encS) ∧ TpIs w' M tb full (comS s).2 ∧ Kp [tb] w w' := by
  have hl2 := hl
  replace hl : full.length ≤ 140737488355328 := by omega
  obtain ⟨wa, hwa⟩ : ∃ x, w.alloc (.cells #[.int .i64 0, .string ⟨#[]⟩, .string ⟨#[]⟩, .string ⟨#[]⟩, .string ⟨#[]⟩, .string ⟨#[]⟩, .string ⟨#[]⟩, .slice none 0 0, .int .i64 0, .int .i64 0, .int .i64 0] 27) = x := ⟨_, rfl⟩
  obtain ⟨w0, hw0⟩ : ∃ x, wa.alloc (.cells #[.int .i64 0, .string ⟨#[]⟩, .string ⟨#[]⟩, .string ⟨#[]⟩, .string ⟨#[]⟩, .string ⟨#[]⟩, .string ⟨#[]⟩, .slice none 0 0, .int .i64 0, .int .i64 0, .int .i64 0] 27) = x := ⟨_, rfl⟩
  have hba : Below w.heap.size w wa := by rw [← hwa]; exact (Below.refl _ _).alloc (Nat.le_refl _) _
  have hb0 : Below wa.heap.size wa w0 := by rw [← hw0]; exact (Below.refl _ _).alloc (Nat.le_refl _) _
  have hra : wa.heap[w.heap.size]? = some (.cells #[.int .i64 0, .string ⟨#[]⟩, .string ⟨#[]⟩, .string ⟨#[]⟩, .string ⟨#[]⟩, .string ⟨#[]⟩, .string ⟨#[]⟩, .slice none 0 0, .int .i64 0, .int .i64 0, .int .i64 0] 27 (0, 0)) := by rw [← hwa]; exact heap_alloc_new w _
  have hcb : w0.heap[wa.heap.size]? = some (.cells #[.int .i64 0, .string ⟨#[]⟩, .string ⟨#[]⟩, .string ⟨#[]⟩, .string ⟨#[]⟩, .string ⟨#[]⟩, .string ⟨#[]⟩, .slice none 0 0, .int .i64 0, .int .i64 0, .int .i64 0] 27 (0, 0)) := by rw [← hw0]; exact heap_alloc_new wa _
  have hr0 := (hb0.block _ (Array.getElem?_eq_some_iff.1 hra).1).trans hra
  have hlt : w.heap.size < wa.heap.size := (Array.getElem?_eq_some_iff.1 hra).1
  have hbw : Below w.heap.size w w0 := hba.trans (hb0.mono hba.size)
  obtain ⟨R, hR⟩ : ∃ R, w.heap.size = R := ⟨_, rfl⟩
  obtain ⟨CB, hCB⟩ : ∃ CB, wa.heap.size = CB := ⟨_, rfl⟩
  rw [hR] at hr0 hlt
  rw [hCB] at hcb hlt
  obtain ⟨s0, hs0⟩ : ∃ x, s = x := ⟨_, rfl⟩
  have hS0 : Hid (TS w M tb full s0 R CB 27 #[.int .i64 0, .string ⟨#[]⟩, .string ⟨#[]⟩, .string ⟨#[]⟩, .string ⟨#[]⟩, .string ⟨#[]⟩, .string ⟨#[]⟩, .slice none 0 0, .int .i64 0, .int .i64 0, .int .i64 0] #[.int .i64 0, .string ⟨#[]⟩, .string ⟨#[]⟩, .string ⟨#[]⟩, .string ⟨#[]⟩, .string ⟨#[]⟩, .string ⟨#[]⟩, .slice none 0 0, .int .i64 0, .int .i64 0, .int .i64 0] w0) := Lib.hid ⟨by rw [← hs0]; exact h.kept hbw, hr0, hcb, Kp.of_below hbw, htb, hM, by omega, hlt⟩
  have hlt' := Lib.hid hlt
  obtain ⟨goal, hgoal⟩ : ∃ g, comS s = g := ⟨_, rfl⟩
  rw [hgoal]
  rw [hs0] at hgoal
  have hgoal' := Lib.hid hgoal
  clear h hba hb0 hra hcb hr0 hbw hs0 hgoal hlt
  go_enter Try.func13, Try.ntmps13
  go_wp2_with fail
  go_at_call 33
  refine (tpNumber_any w0 M tb full s0 hS0.out.tp hl).mono ?_
  rintro e u0 ⟨rfl, hT, hK⟩
  obtain ⟨Na, hNa⟩ : ∃ N, (numS s0).1 = N := ⟨_, rfl⟩
  have hwa : IntKind.i64.wrap (Na : Int) = (intS s0).1 := by rw [← hNa]; exact wrap_toI (numS_lt s0)
  obtain ⟨za, hza⟩ : ∃ z, (intS s0).1 = z := ⟨_, rfl⟩
  obtain ⟨s1, hs1⟩ : ∃ x, (intS s0).2 = x := ⟨_, rfl⟩
  rw [show (numS s0).2 = s1 from hs1] at hT
  rw [hza] at hwa
  rw [hNa]
  have hU0 := hS0.out.call hT hK
  have c0 := hU0.cell 0
  have f0 := hU0.froz 0
  obtain ⟨w1, hw1⟩ : ∃ x, u0.setCell ⟨CB, 0, none⟩ (.int .i64 za) = x := ⟨_, rfl⟩
  have hS1 : Hid (TS w M tb full s1 R CB 27 #[.int .i64 0, .string ⟨#[]⟩, .string ⟨#[]⟩, .string ⟨#[]⟩, .string ⟨#[]⟩, .string ⟨#[]⟩, .string ⟨#[]⟩, .slice none 0 0, .int .i64 0, .int .i64 0, .int .i64 0] #[.int .i64 za, .string ⟨#[]⟩, .string ⟨#[]⟩, .string ⟨#[]⟩, .string ⟨#[]⟩, .string ⟨#[]⟩, .string ⟨#[]⟩, .slice none 0 0, .int .i64 0, .int .i64 0, .int .i64 0] w1) := Lib.hid (by rw [← hw1]; exact hU0.set 0 _ rfl)
  have E0 := Lib.hid (And.intro hza hs1)
  clear hT hK hU0 hza hs1 hNa hS0
  go_wp2_with fail
  go_at_call 34
  refine (tpText_any w1 M tb full s1 hS1.out.tp hl).mono ?_
  rintro e u1 ⟨rfl, hT, hK⟩
  obtain ⟨yb, hzb⟩ : ∃ z, (txtS s1).1 = z := ⟨_, rfl⟩
  obtain ⟨s2, hs2⟩ : ∃ x, (txtS s1).2 = x := ⟨_, rfl⟩
  rw [hs2] at hT
  rw [hzb]
  unfold sv
  have hU1 := hS1.out.call hT hK
  have c1 := hU1.cell 1
  have f1 := hU1.froz 1
  obtain ⟨w2, hw2⟩ : ∃ x, u1.setCell ⟨CB, 1, none⟩ (.string ⟨yb.toArray⟩) = x := ⟨_, rfl⟩
  have hS2 : Hid (TS w M tb full s2 R CB 27 #[.int .i64 0, .string ⟨#[]⟩, .string ⟨#[]⟩, .string ⟨#[]⟩, .string ⟨#[]⟩, .string ⟨#[]⟩, .string ⟨#[]⟩, .slice none 0 0, .int .i64 0, .int .i64 0, .int .i64 0] #[.int .i64 za, .string ⟨yb.toArray⟩, .string ⟨#[]⟩, .string ⟨#[]⟩, .string ⟨#[]⟩, .string ⟨#[]⟩, .string ⟨#[]⟩, .slice none 0 0, .int .i64 0, .int .i64 0, .int .i64 0] w2) := Lib.hid (by rw [← hw2]; exact hU1.set 1 _ rfl)
  have E1 := Lib.hid (And.intro hzb hs2)
  clear hT hK hU1 hzb hs2 hS1
  go_wp2_with fail
  go_at_call 34
  refine (tpText_any w2 M tb full s2 hS2.out.tp hl).mono ?_
  rintro e u2 ⟨rfl, hT, hK⟩
  obtain ⟨yc, hzc⟩ : ∃ z, (txtS s2).1 = z := ⟨_, rfl⟩
  obtain ⟨s3, hs3⟩ : ∃ x, (txtS s2).2 = x := ⟨_, rfl⟩
  rw [hs3] at hT
  rw [hzc]
  unfold sv
  have hU2 := hS2.out.call hT hK
  have c2 := hU2.cell 2
  have f2 := hU2.froz 2
  obtain ⟨w3, hw3⟩ : ∃ x, u2.setCell ⟨CB, 2, none⟩ (.string ⟨yc.toArray⟩) = x := ⟨_, rfl⟩
  have hS3 : Hid (TS w M tb full s3 R CB 27 #[.int .i64 0, .string ⟨#[]⟩, .string ⟨#[]⟩, .string ⟨#[]⟩, .string ⟨#[]⟩, .string ⟨#[]⟩, .string ⟨#[]⟩, .slice none 0 0, .int .i64 0, .int .i64 0, .int .i64 0] #[.int .i64 za, .string ⟨yb.toArray⟩, .string ⟨yc.toArray⟩, .string ⟨#[]⟩, .string ⟨#[]⟩, .string ⟨#[]⟩, .string ⟨#[]⟩, .slice none 0 0, .int .i64 0, .int .i64 0, .int .i64 0] w3) := Lib.hid (by rw [← hw3]; exact hU2.set 2 _ rfl)
  have E2 := Lib.hid (And.intro hzc hs3)
  clear hT hK hU2 hzc hs3 hS2
  go_wp2_with fail
  go_at_call 34
  refine (tpText_any w3 M tb full s3 hS3.out.tp hl).mono ?_
  rintro e u3 ⟨rfl, hT, hK⟩
  obtain ⟨yd, hzd⟩ : ∃ z, (txtS s3).1 = z := ⟨_, rfl⟩
  obtain ⟨s4, hs4⟩ : ∃ x, (txtS s3).2 = x := ⟨_, rfl⟩
  rw [hs4] at hT
  rw [hzd]
  unfold sv
  have hU3 := hS3.out.call hT hK
  have c3 := hU3.cell 3
  have f3 := hU3.froz 3
  obtain ⟨w4, hw4⟩ : ∃ x, u3.setCell ⟨CB, 3, none⟩ (.string ⟨yd.toArray⟩) = x := ⟨_, rfl⟩
  have hS4 : Hid (TS w M tb full s4 R CB 27 #[.int .i64 0, .string ⟨#[]⟩, .string ⟨#[]⟩, .string ⟨#[]⟩, .string ⟨#[]⟩, .string ⟨#[]⟩, .string ⟨#[]⟩, .slice none 0 0, .int .i64 0, .int .i64 0, .int .i64 0] #[.int .i64 za, .string ⟨yb.toArray⟩, .string ⟨yc.toArray⟩, .string ⟨yd.toArray⟩, .string ⟨#[]⟩, .string ⟨#[]⟩, .string ⟨#[]⟩, .slice none 0 0, .int .i64 0, .int .i64 0, .int .i64 0] w4) := Lib.hid (by rw [← hw4]; exact hU3.set 3 _ rfl)
  have E3 := Lib.hid (And.intro hzd hs4)
  clear hT hK hU3 hzd hs4 hS3
  go_wp2_with fail
  go_at_call 34
  refine (tpText_any w4 M tb full s4 hS4.out.tp hl).mono ?_
  rintro e u4 ⟨rfl, hT, hK⟩
  obtain ⟨ye, hze⟩ : ∃ z, (txtS s4).1 = z := ⟨_, rfl⟩
  obtain ⟨s5, hs5⟩ : ∃ x, (txtS s4).2 = x := ⟨_, rfl⟩
  rw [hs5] at hT
  rw [hze]
  unfold sv
  have hU4 := hS4.out.call hT hK
  have c4 := hU4.cell 4
  have f4 := hU4.froz 4
  obtain ⟨w5, hw5⟩ : ∃ x, u4.setCell ⟨CB, 4, none⟩ (.string ⟨ye.toArray⟩) = x := ⟨_, rfl⟩
  have hS5 : Hid (TS w M tb full s5 R CB 27 #[.int .i64 0, .string ⟨#[]⟩, .string ⟨#[]⟩, .string ⟨#[]⟩, .string ⟨#[]⟩, .string ⟨#[]⟩, .string ⟨#[]⟩, .slice none 0 0, .int .i64 0, .int .i64 0, .int .i64 0] #[.int .i64 za, .string ⟨yb.toArray⟩, .string ⟨yc.toArray⟩, .string ⟨yd.toArray⟩, .string ⟨ye.toArray⟩, .string ⟨#[]⟩, .string ⟨#[]⟩, .slice none 0 0, .int .i64 0, .int .i64 0, .int .i64 0] w5) := Lib.hid (by rw [← hw5]; exact hU4.set 4 _ rfl)
  have E4 := Lib.hid (And.intro hze hs5)
  clear hT hK hU4 hze hs5 hS4
  go_wp2_with fail
  go_at_call 34
  refine (tpText_any w5 M tb full s5 hS5.out.tp hl).mono ?_
  rintro e u5 ⟨rfl, hT, hK⟩
  obtain ⟨yf, hzf⟩ : ∃ z, (txtS s5).1 = z := ⟨_, rfl⟩
  obtain ⟨s6, hs6⟩ : ∃ x, (txtS s5).2 = x := ⟨_, rfl⟩
  rw [hs6] at hT
  rw [hzf]
  unfold sv
  have hU5 := hS5.out.call hT hK
  have c5 := hU5.cell 5
  have f5 := hU5.froz 5
  obtain ⟨w6, hw6⟩ : ∃ x, u5.setCell ⟨CB, 5, none⟩ (.string ⟨yf.toArray⟩) = x := ⟨_, rfl⟩
  have hS6 : Hid (TS w M tb full s6 R CB 27 #[.int .i64 0, .string ⟨#[]⟩, .string ⟨#[]⟩, .string ⟨#[]⟩, .string ⟨#[]⟩, .string ⟨#[]⟩, .string ⟨#[]⟩, .slice none 0 0, .int .i64 0, .int .i64 0, .int .i64 0] #[.int .i64 za, .string ⟨yb.toArray⟩, .string ⟨yc.toArray⟩, .string ⟨yd.toArray⟩, .string ⟨ye.toArray⟩, .string ⟨yf.toArray⟩, .string ⟨#[]⟩, .slice none 0 0, .int .i64 0, .int .i64 0, .int .i64 0] w6) := Lib.hid (by rw [← hw6]; exact hU5.set 5 _ rfl)
  have E5 := Lib.hid (And.intro hzf hs6)
  clear hT hK hU5 hzf hs6 hS5
  go_wp2_with fail
  go_at_call 34
  refine (tpText_any w6 M tb full s6 hS6.out.tp hl).mono ?_
  rintro e u6 ⟨rfl, hT, hK⟩
  obtain ⟨yg, hzg⟩ : ∃ z, (txtS s6).1 = z := ⟨_, rfl⟩
  obtain ⟨s7, hs7⟩ : ∃ x, (txtS s6).2 = x := ⟨_, rfl⟩
  rw [hs7] at hT
  rw [hzg]
  unfold sv
  have hU6 := hS6.out.call hT hK
  have c6 := hU6.cell 6
  have f6 := hU6.froz 6
  obtain ⟨w7, hw7⟩ : ∃ x, u6.setCell ⟨CB, 6, none⟩ (.string ⟨yg.toArray⟩) = x := ⟨_, rfl⟩
  have hS7 : Hid (TS w M tb full s7 R CB 27 #[.int .i64 0, .string ⟨#[]⟩, .string ⟨#[]⟩, .string ⟨#[]⟩, .string ⟨#[]⟩, .string ⟨#[]⟩, .string ⟨#[]⟩, .slice none 0 0, .int .i64 0, .int .i64 0, .int .i64 0] #[.int .i64 za, .string ⟨yb.toArray⟩, .string ⟨yc.toArray⟩, .string ⟨yd.toArray⟩, .string ⟨ye.toArray⟩, .string ⟨yf.toArray⟩, .string ⟨yg.toArray⟩, .slice none 0 0, .int .i64 0, .int .i64 0, .int .i64 0] w7) := Lib.hid (by rw [← hw7]; exact hU6.set 6 _ rfl)
  have E6 := Lib.hid (And.intro hzg hs7)
  clear hT hK hU6 hzg hs7 hS6
  go_wp2_with fail
  go_at_call 35
  refine (tpCount_any w7 M tb full s7 hS7.out.tp hl).mono ?_
  rintro e w8 ⟨rfl, hT, hK⟩
  obtain ⟨n, hn⟩ : ∃ n, (cntS s7).1 = n := ⟨_, rfl⟩
  obtain ⟨s8, hs8⟩ : ∃ x, (cntS s7).2 = x := ⟨_, rfl⟩
  rw [hs8] at hT
  rw [hn]
  have hnl : n ≤ full.length := by
    cases hq : s8 with
    | none =>
      have : (cntS s7).1 = 0 := by
        unfold cntS at hs8 ⊢
        rw [hq] at hs8
        revert hs8
        generalize (numS s7).2 = y
        cases y with
        | none => intro _; rfl
        | some y =>
          obtain ⟨l, f⟩ := y
          show (if l.length < (numS s7).1 then ((0 : Nat), (none : St)) else ((numS s7).1, some (l, f))).2 = none → (if l.length < (numS s7).1 then ((0 : Nat), (none : St)) else ((numS s7).1, some (l, f))).1 = 0
          split
          · intro _; rfl
          · intro h; cases h
      omega
    | some y =>
      obtain ⟨l, f⟩ := y
      have hy : (numS s7).2 = some (l, f) ∧ n ≤ l.length := by
        unfold cntS at hs8 hn
        rw [hq] at hs8
        revert hs8 hn
        generalize (numS s7).2 = y
        cases y with
        | none => intro _ h; cases h
        | some y =>
          obtain ⟨l', f'⟩ := y
          show (if l'.length < (numS s7).1 then ((0 : Nat), (none : St)) else ((numS s7).1, some (l', f'))).1 = n → (if l'.length < (numS s7).1 then ((0 : Nat), (none : St)) else ((numS s7).1, some (l', f'))).2 = some (l, f) → _
          split
          · intro _ h; cases h
          · rename_i hlt
            intro h1 h2
            injection h2 with h2
            injection h2 with h2 h3
            subst h2 h3
            exact ⟨rfl, by simp only at h1; omega⟩
      obtain ⟨A, b, off, c, k, sh, fm, hRx, hsx⟩ := hT
      rw [hq] at hsx
      unfold stOf at hsx
      split at hsx
      · cases hsx
      · injection hsx with hsx
        injection hsx with hsx _
        have := hy.2
        rw [hsx, List.length_drop] at this
        omega
  have hS8 := Lib.hid (hS7.out.call hT hK)
  have E7 := Lib.hid (And.intro hn hs8)
  have hN0 : Hid (w8.ownsRow (CB + 1) 9 1 (.slice none 0 0) ([] : List Row).length (([] : List Row).flatMap encS)) := Lib.hid (World.ownsRow_nil w8 _ _ 1)
  obtain ⟨rgoal, hrg⟩ : ∃ g, rowS txtS s7 = g := ⟨_, rfl⟩
  have hgo : Going txtS rgoal [] n s8 := by
    rw [← hrg]
    unfold rowS
    rw [hn, hs8]
    exact Going.start _ _ _
  have hgo' := Lib.hid hgo
  have hrg' := Lib.hid hrg
  clear hT hK hn hs8 hgo hrg hS7
  go_wp2
  go_loopw [5] (fun s5 wr => ∃ (k : Nat) (acc : List Row) (sr : St) (ao : Option Addr) (ac : Nat), s5 = .int .i64 (k : Int) ∧ k ≤ n ∧ acc.length = k ∧ Hid (Going txtS rgoal acc (n - k) sr) ∧ Hid (TS w M tb full sr R CB 27 #[.int .i64 0, .string ⟨#[]⟩, .string ⟨#[]⟩, .string ⟨#[]⟩, .string ⟨#[]⟩, .string ⟨#[]⟩, .string ⟨#[]⟩, .slice none 0 0, .int .i64 0, .int .i64 0, .int .i64 0] #[.int .i64 za, .string ⟨yb.toArray⟩, .string ⟨yc.toArray⟩, .string ⟨yd.toArray⟩, .string ⟨ye.toArray⟩, .string ⟨yf.toArray⟩, .string ⟨yg.toArray⟩, .slice ao acc.length ac, .int .i64 0, .int .i64 0, .int .i64 0] wr) ∧ Hid (wr.ownsRow (CB + 1) 9 1 (.slice ao acc.length ac) acc.length (acc.flatMap encS))) (fun s5 _ => n - (RowKit.intOf s5).toNat)
  case atStart => exact ⟨0, [], s8, none, 0, by rfl, Nat.zero_le _, rfl, hgo', hS8, hN0⟩
  case round =>
    obtain ⟨k, acc, s9, ao, ac, rfl, hk, hak, hG, hS9, hO⟩ := hrel
    obtain ⟨A, b, off, c, kk, sh, fm, hRx, hsx⟩ := hS9.out.tp
    have x2 := Lib.cell_of_heap hRx.cells 2
    have hak' := Lib.hid hak
    have hsx' := Lib.hid hsx
    clear hRx hak hsx
    have hgone : ((¬ (k : Int) < (n : Int)) ∨ ((k : Int) < (n : Int) ∧ sh = true)) ∨ ((k : Int) < (n : Int) ∧ sh = false) := by
      cases sh <;> simp <;> omega
    rcases hgone with hgo | ⟨hlt, rfl⟩
    · have hE8 : Hid (rowS txtS s7 = (acc, s9)) := Lib.hid (by
        rw [hrg'.out]
        rcases hgo with hge | ⟨_, rfl⟩
        · have h1 := hG.out
          rw [show n - k = 0 by omega] at h1
          exact h1.fin
        · have h1 := hG.out
          have h2 := hsx'.out
          unfold stOf at h2
          simp only [if_true] at h2
          rw [h2] at h1 ⊢
          exact h1.gone)
      have hO9 := hO
      clear hG hrg'
      rcases hgo with hge | ⟨hlt, rfl⟩
      all_goals
        go_wp2_with fail
        go_at_call 33
        refine (tpNumber_any wr M tb full s9 hS9.out.tp hl).mono ?_
        rintro e u9 ⟨rfl, hT, hK⟩
        obtain ⟨Ni, hNi⟩ : ∃ N, (numS s9).1 = N := ⟨_, rfl⟩
        have hwi : IntKind.i64.wrap (Ni : Int) = (intS s9).1 := by rw [← hNi]; exact wrap_toI (numS_lt s9)
        obtain ⟨zi, hzi⟩ : ∃ z, (intS s9).1 = z := ⟨_, rfl⟩
        obtain ⟨s10, hs10⟩ : ∃ x, (intS s9).2 = x := ⟨_, rfl⟩
        rw [show (numS s9).2 = s10 from hs10] at hT
        rw [hzi] at hwi
        rw [hNi]
        have hU9 := hS9.out.call hT hK
        have c9 := hU9.cell 8
        have f9 := hU9.froz 8
        obtain ⟨w10, hw10⟩ : ∃ x, u9.setCell ⟨CB, 8, none⟩ (.int .i64 zi) = x := ⟨_, rfl⟩
        have hS10 : Hid (TS w M tb full s10 R CB 27 #[.int .i64 0, .string ⟨#[]⟩, .string ⟨#[]⟩, .string ⟨#[]⟩, .string ⟨#[]⟩, .string ⟨#[]⟩, .string ⟨#[]⟩, .slice none 0 0, .int .i64 0, .int .i64 0, .int .i64 0] #[.int .i64 za, .string ⟨yb.toArray⟩, .string ⟨yc.toArray⟩, .string ⟨yd.toArray⟩, .string ⟨ye.toArray⟩, .string ⟨yf.toArray⟩, .string ⟨yg.toArray⟩, .slice ao acc.length ac, .int .i64 zi, .int .i64 0, .int .i64 0] w10) := Lib.hid (by rw [← hw10]; exact hU9.set 8 _ rfl)
        have E9 := Lib.hid (And.intro hzi hs10)
        have hOu := ownsRow_heap hO9.out fun g hg => hK.block g (World.ownsRow.lt hO9.out g hg).2 (by have := (World.ownsRow.lt hO9.out g hg).1; have := hS9.out.lo; simp; omega)
        have hO10 := Lib.hid (show w10.ownsRow (CB + 1) 9 1 (.slice ao acc.length ac) acc.length (acc.flatMap encS) by rw [← hw10]; exact ownsRow_heap hOu fun q hq => Below.heap_setCell _ _ _ q (by have := (World.ownsRow.lt hO9.out q hq).1; show q ≠ CB; omega))
        clear hOu hO9
        clear hT hK hU9 hzi hs10 hNi hS9
        go_wp2_with fail
        go_at_call 33
        refine (tpNumber_any w10 M tb full s10 hS10.out.tp hl).mono ?_
        rintro e u10 ⟨rfl, hT, hK⟩
        obtain ⟨Nj, hNj⟩ : ∃ N, (numS s10).1 = N := ⟨_, rfl⟩
        have hwj : IntKind.i64.wrap (Nj : Int) = (intS s10).1 := by rw [← hNj]; exact wrap_toI (numS_lt s10)
        obtain ⟨zj, hzj⟩ : ∃ z, (intS s10).1 = z := ⟨_, rfl⟩
        obtain ⟨s11, hs11⟩ : ∃ x, (intS s10).2 = x := ⟨_, rfl⟩
        rw [show (numS s10).2 = s11 from hs11] at hT
        rw [hzj] at hwj
        rw [hNj]
        have hU10 := hS10.out.call hT hK
        have c10 := hU10.cell 9
        have f10 := hU10.froz 9
        obtain ⟨w11, hw11⟩ : ∃ x, u10.setCell ⟨CB, 9, none⟩ (.int .i64 zj) = x := ⟨_, rfl⟩
        have hS11 : Hid (TS w M tb full s11 R CB 27 #[.int .i64 0, .string ⟨#[]⟩, .string ⟨#[]⟩, .string ⟨#[]⟩, .string ⟨#[]⟩, .string ⟨#[]⟩, .string ⟨#[]⟩, .slice none 0 0, .int .i64 0, .int .i64 0, .int .i64 0] #[.int .i64 za, .string ⟨yb.toArray⟩, .string ⟨yc.toArray⟩, .string ⟨yd.toArray⟩, .string ⟨ye.toArray⟩, .string ⟨yf.toArray⟩, .string ⟨yg.toArray⟩, .slice ao acc.length ac, .int .i64 zi, .int .i64 zj, .int .i64 0] w11) := Lib.hid (by rw [← hw11]; exact hU10.set 9 _ rfl)
        have E10 := Lib.hid (And.intro hzj hs11)
        have hOu := ownsRow_heap hO10.out fun g hg => hK.block g (World.ownsRow.lt hO10.out g hg).2 (by have := (World.ownsRow.lt hO10.out g hg).1; have := hS10.out.lo; simp; omega)
        have hO11 := Lib.hid (show w11.ownsRow (CB + 1) 9 1 (.slice ao acc.length ac) acc.length (acc.flatMap encS) by rw [← hw11]; exact ownsRow_heap hOu fun q hq => Below.heap_setCell _ _ _ q (by have := (World.ownsRow.lt hO10.out q hq).1; show q ≠ CB; omega))
        clear hOu hO10
        clear hT hK hU10 hzj hs11 hNj hS10
        go_wp2_with fail
        go_at_call 33
        refine (tpNumber_any w11 M tb full s11 hS11.out.tp hl).mono ?_
        rintro e u11 ⟨rfl, hT, hK⟩
        obtain ⟨Nk, hNk⟩ : ∃ N, (numS s11).1 = N := ⟨_, rfl⟩
        have hwk : IntKind.i64.wrap (Nk : Int) = (intS s11).1 := by rw [← hNk]; exact wrap_toI (numS_lt s11)
        obtain ⟨zk, hzk⟩ : ∃ z, (intS s11).1 = z := ⟨_, rfl⟩
        obtain ⟨s12, hs12⟩ : ∃ x, (intS s11).2 = x := ⟨_, rfl⟩
        rw [show (numS s11).2 = s12 from hs12] at hT
        rw [hzk] at hwk
        rw [hNk]
        have hU11 := hS11.out.call hT hK
        have c11 := hU11.cell 10
        have f11 := hU11.froz 10
        obtain ⟨w12, hw12⟩ : ∃ x, u11.setCell ⟨CB, 10, none⟩ (.int .i64 zk) = x := ⟨_, rfl⟩
        have hS12 : Hid (TS w M tb full s12 R CB 27 #[.int .i64 0, .string ⟨#[]⟩, .string ⟨#[]⟩, .string ⟨#[]⟩, .string ⟨#[]⟩, .string ⟨#[]⟩, .string ⟨#[]⟩, .slice none 0 0, .int .i64 0, .int .i64 0, .int .i64 0] #[.int .i64 za, .string ⟨yb.toArray⟩, .string ⟨yc.toArray⟩, .string ⟨yd.toArray⟩, .string ⟨ye.toArray⟩, .string ⟨yf.toArray⟩, .string ⟨yg.toArray⟩, .slice ao acc.length ac, .int .i64 zi, .int .i64 zj, .int .i64 zk] w12) := Lib.hid (by rw [← hw12]; exact hU11.set 10 _ rfl)
        have E11 := Lib.hid (And.intro hzk hs12)
        have hOu := ownsRow_heap hO11.out fun g hg => hK.block g (World.ownsRow.lt hO11.out g hg).2 (by have := (World.ownsRow.lt hO11.out g hg).1; have := hS11.out.lo; simp; omega)
        have hO12 := Lib.hid (show w12.ownsRow (CB + 1) 9 1 (.slice ao acc.length ac) acc.length (acc.flatMap encS) by rw [← hw12]; exact ownsRow_heap hOu fun q hq => Below.heap_setCell _ _ _ q (by have := (World.ownsRow.lt hO11.out q hq).1; show q ≠ CB; omega))
        clear hOu hO11
        clear hT hK hU11 hzk hs12 hNk hS11
        have x0 := hS12.out.cell 0
        have r0 := Lib.cell_of_heap hS12.out.rbk 0
        have fr0 := Lib.frozen_of_heap hS12.out.rbk 0
        have x1 := hS12.out.cell 1
        have r1 := Lib.cell_of_heap hS12.out.rbk 1
        have fr1 := Lib.frozen_of_heap hS12.out.rbk 1
        have x2 := hS12.out.cell 2
        have r2 := Lib.cell_of_heap hS12.out.rbk 2
        have fr2 := Lib.frozen_of_heap hS12.out.rbk 2
        have x3 := hS12.out.cell 3
        have r3 := Lib.cell_of_heap hS12.out.rbk 3
        have fr3 := Lib.frozen_of_heap hS12.out.rbk 3
        have x4 := hS12.out.cell 4
        have r4 := Lib.cell_of_heap hS12.out.rbk 4
        have fr4 := Lib.frozen_of_heap hS12.out.rbk 4
        have x5 := hS12.out.cell 5
        have r5 := Lib.cell_of_heap hS12.out.rbk 5
        have fr5 := Lib.frozen_of_heap hS12.out.rbk 5
        have x6 := hS12.out.cell 6
        have r6 := Lib.cell_of_heap hS12.out.rbk 6
        have fr6 := Lib.frozen_of_heap hS12.out.rbk 6
        have x7 := hS12.out.cell 7
        have r7 := Lib.cell_of_heap hS12.out.rbk 7
        have fr7 := Lib.frozen_of_heap hS12.out.rbk 7
        have x8 := hS12.out.cell 8
        have r8 := Lib.cell_of_heap hS12.out.rbk 8
        have fr8 := Lib.frozen_of_heap hS12.out.rbk 8
        have x9 := hS12.out.cell 9
        have r9 := Lib.cell_of_heap hS12.out.rbk 9
        have fr9 := Lib.frozen_of_heap hS12.out.rbk 9
        have x10 := hS12.out.cell 10
        have r10 := Lib.cell_of_heap hS12.out.rbk 10
        have fr10 := Lib.frozen_of_heap hS12.out.rbk 10
        have hg := Lib.hid (show goal = (⟨za, yb, yc, yd, ye, yf, yg, acc, zi, zj, zk⟩, s12) by
          rw [← hgoal'.out]
          unfold comS
          simp only [E0.out.1, E0.out.2, E1.out.1, E1.out.2, E2.out.1, E2.out.2, E3.out.1, E3.out.2, E4.out.1, E4.out.2, E5.out.1, E5.out.2, E6.out.1, E6.out.2, hE8.out, E9.out.1, E9.out.2, E10.out.1, E10.out.2, E11.out.1, E11.out.2])
        obtain ⟨vs, hvs⟩ : ∃ vs : List Value, [.int .i64 za, .string ⟨yb.toArray⟩, .string ⟨yc.toArray⟩, .string ⟨yd.toArray⟩, .string ⟨ye.toArray⟩, .string ⟨yf.toArray⟩, .string ⟨yg.toArray⟩, .slice ao acc.length ac, .int .i64 zi, .int .i64 zj, .int .i64 zk] = vs := ⟨_, rfl⟩
        have hF := hS12.out.fin [.int .i64 za, .string ⟨yb.toArray⟩, .string ⟨yc.toArray⟩, .string ⟨yd.toArray⟩, .string ⟨ye.toArray⟩, .string ⟨yf.toArray⟩, .string ⟨yg.toArray⟩, .slice ao acc.length ac, .int .i64 zi, .int .i64 zj, .int .i64 zk] rfl
        have hrow := World.ownsRow.mono (base' := B0) (show (setAll w12 R 0 [.int .i64 za, .string ⟨yb.toArray⟩, .string ⟨yc.toArray⟩, .string ⟨yd.toArray⟩, .string ⟨ye.toArray⟩, .string ⟨yf.toArray⟩, .string ⟨yg.toArray⟩, .slice ao acc.length ac, .int .i64 zi, .int .i64 zj, .int .i64 zk]).ownsRow (CB + 1) 9 1 (.slice ao acc.length ac) acc.length (acc.flatMap encS) from ownsRow_heap hO12.out fun q hq => setAll_other (by have := (World.ownsRow.lt hO12.out q hq).1; have := hS12.out.lo; omega) _ _ _) (by have := hlt'.out; omega)
        simp only [setAll, Nat.reduceAdd, Nat.zero_add] at hF hrow
        have hF' := Lib.hid (And.intro hF hrow)
        clear hF hrow hvs
        go_wp2
        have hres := fun tm (hp : tm.getD 2 undef = .pointer (some ⟨R, 0, none⟩)) => results_cell_row (fn := Try.f13) (p := 2) (ty := 27) rfl tm _ R _ _ _ _ hp hF'.out.1.1 Try.underlying27 rfl (by kernel_rfl)
        refine bodyPost_ret (hres _ rfl) rfl ⟨.slice ao acc.length ac, ?_, ?_, ?_, hF'.out.1.2.2⟩
        · rw [hg.out]; rfl
        · rw [hg.out]; exact hF'.out.2
        · rw [hg.out]; exact hF'.out.1.2.1
    · obtain ⟨m, hm⟩ : ∃ m, n - k = m + 1 := ⟨n - k - 1, by omega⟩
      have h2 := hsx'.out
      unfold stOf at h2
      simp only [Bool.false_eq_true, if_false] at h2
      have hG2 := hG.out
      rw [hm, h2] at hG2
      have hG3 := hG2.step
      rw [← h2] at hG3
      have hm' := Lib.hid hm
      clear h2 hG2 hG hsx' hm
      go_wp2_with fail
      go_at_call 34
      refine (tpText_any wr M tb full s9 hS9.out.tp hl).mono ?_
      rintro e u9 ⟨rfl, hT, hK⟩
      obtain ⟨y, hy⟩ : ∃ z, (txtS s9).1 = z := ⟨_, rfl⟩
      obtain ⟨s10, hs10⟩ : ∃ x, (txtS s9).2 = x := ⟨_, rfl⟩
      rw [hs10] at hT hG3
      rw [hy] at hG3
      rw [hy]
      unfold sv
      have hU := hS9.out.call hT hK
      have c7 := hU.cell 7
      have htbl := hS9.out.lo
      have hO9 : u9.ownsRow (CB + 1) 9 1 (.slice ao acc.length ac) acc.length (acc.flatMap encS) := ownsRow_heap hO.out fun g hg => hK.block g (World.ownsRow.lt hO.out g hg).2 (by have := (World.ownsRow.lt hO.out g hg).1; simp; omega)
      have hU' := Lib.hid hU
      have hG3' := Lib.hid hG3
      have hlen : (acc.length + 1) * 16 ≤ 140737488355328 := by have := hak'.out; omega
      have hmax : acc.length + 1 ≤ maxLen := by unfold maxLen; have := hak'.out; omega
      have hcbl := (Array.getElem?_eq_some_iff.1 hU.cbk).1
      have hO9' := Lib.hid hO9
      clear hT hK hy hs10 hU hO9 hG3 htbl
      go_wp2_with (first
        | (at_builtin; refine append_el (enc := encS) (size := 1) (bytes := 16) (et := 9) (st := 25) (z := .string ⟨#[]⟩) Try.underlying25 infoStr rfl (fun _ => rfl) (fun x u hu => by simp [encS, sv] at hu; rw [hu]; rfl) (by decide) y rfl rfl _ _ rfl (CB + 1) _ acc _ rfl rfl rfl hO9'.out hlen hmax (by omega) ?_; intro g cap w2 hw2; have hW2 := Lib.hid hw2; have hV := hU'.out.row hW2.out.kp (fun g hg => (World.ownsRow.lt hO9'.out g hg).1); have v7 := hV.cell 7; have g7 := hV.froz 7)
        | fail)
      have hO2 := hW2.out.own
      have hgl := World.ownsRow.lt hO2 g rfl
      have hrel2 : Hid (TS w M tb full s10 R CB 27 #[.int .i64 0, .string ⟨#[]⟩, .string ⟨#[]⟩, .string ⟨#[]⟩, .string ⟨#[]⟩, .string ⟨#[]⟩, .string ⟨#[]⟩, .slice none 0 0, .int .i64 0, .int .i64 0, .int .i64 0] #[.int .i64 za, .string ⟨yb.toArray⟩, .string ⟨yc.toArray⟩, .string ⟨yd.toArray⟩, .string ⟨ye.toArray⟩, .string ⟨yf.toArray⟩, .string ⟨yg.toArray⟩, .slice (some ⟨g, 0, none⟩) (acc.length + 1) cap, .int .i64 0, .int .i64 0, .int .i64 0] (w2.setCell ⟨CB, 7, none⟩ (.slice (some ⟨g, 0, none⟩) (acc.length + 1) cap)) ∧ (w2.setCell ⟨CB, 7, none⟩ (.slice (some ⟨g, 0, none⟩) (acc.length + 1) cap)).ownsRow (CB + 1) 9 1 (.slice (some ⟨g, 0, none⟩) (acc.length + 1) cap) (acc ++ [y]).length ((acc ++ [y]).flatMap encS)) :=
        Lib.hid ⟨hV.set 7 _ rfl, ownsRow_heap hO2 fun q hq => Below.heap_setCell _ _ _ q (by have := (World.ownsRow.lt hO2 q hq).1; show q ≠ CB; omega)⟩
      have hal : (acc ++ [y]).length = acc.length + 1 := by simp
      have hal' := Lib.hid hal
      clear hw2 hV hO2 hgl hal
      go_wp2
      go_roundw
      case rel => exact ⟨k + 1, acc ++ [y], s10, some ⟨g, 0, none⟩, cap, by go_num, by omega, by rw [hal'.out, hak'.out], Lib.hid (by rw [show n - (k + 1) = m by have := hm'.out; omega]; exact hG3'.out), Lib.hid (by rw [hal'.out]; exact hrel2.out.1), Lib.hid (by have := hrel2.out.2; rw [hal'.out] at this ⊢; exact this)⟩
      case measure => simp [RowKit.intOf]; omega
end Go.Proofs.Ytpngbfmbjldieaa.Cd
