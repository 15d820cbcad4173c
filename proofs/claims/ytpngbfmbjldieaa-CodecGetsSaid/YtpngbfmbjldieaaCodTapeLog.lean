/-
  THE WALK OF (*calepinref15.Tape).Log.
-/
import Derived.Test.YtpngbfmbjldieaaCodTapeCom
set_option linter.unusedVariables false
namespace Go.Proofs.Ytpngbfmbjldieaa.Cd
open Go.Lib Go.RowKit
open Bo (Kp Row ownsRow_heap sv sv_data)
open Ly (BOwn Wr word text flag num word_len num_word num_snoc num_lt info_parts)

theorem cnt_le {w4 : World} {M tb : Nat} {full : Row} {s3 s4 : St} {n : Nat} (hn : (cntS s3).1 = n) (hs4 : (cntS s3).2 = s4) (hT : TpIs w4 M tb full s4) : n ≤ full.length := by
  cases hq : s4 with
  | none =>
    have : (cntS s3).1 = 0 := by
      unfold cntS at hs4 ⊢
      rw [hq] at hs4
      revert hs4
      generalize (numS s3).2 = y
      cases y with
      | none => intro _; rfl
      | some y =>
        obtain ⟨l, f⟩ := y
        show (if l.length < (numS s3).1 then ((0 : Nat), (none : St)) else ((numS s3).1, some (l, f))).2 = none → (if l.length < (numS s3).1 then ((0 : Nat), (none : St)) else ((numS s3).1, some (l, f))).1 = 0
        split
        · intro _; rfl
        · intro h; cases h
    omega
  | some y =>
    obtain ⟨l, f⟩ := y
    have hy : (numS s3).2 = some (l, f) ∧ n ≤ l.length := by
      unfold cntS at hs4 hn
      rw [hq] at hs4
      revert hs4 hn
      generalize (numS s3).2 = y
      cases y with
      | none => intro _ h; cases h
      | some y =>
        obtain ⟨l', f'⟩ := y
        show (if l'.length < (numS s3).1 then ((0 : Nat), (none : St)) else ((numS s3).1, some (l', f'))).1 = n → (if l'.length < (numS s3).1 then ((0 : Nat), (none : St)) else ((numS s3).1, some (l', f'))).2 = some (l, f) → _
        split
        · intro _ h; cases h
        · rename_i hlt
          intro h1 h2
          injection h2 with h2
          injection h2 with h2 h3
          subst h2 h3
          exact ⟨rfl, by simp only at h1; omega⟩
    obtain ⟨A, b, off, c, k, sh, fm, hRx, hsx⟩ := hT
    rw [hq] at hsx
    unfold stOf at hsx
    split at hsx
    · cases hsx
    · injection hsx with hsx
      injection hsx with hsx _
      have := hy.2
      rw [hsx, List.length_drop] at this
      omega
theorem bytS_lt (s : St) : (bytS s).1 < 256 := by
  have h : ∀ l : Row, l.length ≤ 1 → num l < 256 := fun l hl => by
    have := num_lt l.length l rfl
    have h2 : 256 ^ l.length ≤ 256 ^ 1 := Nat.pow_le_pow_right (by decide) hl
    omega
  refine h _ ?_
  unfold takeS
  split
  · simp
  · split
    · simp
    · simp; omega
theorem own_slice {w : World} {B : Nat} {e : TypeId} {size : Nat} {v : Value} {n : Nat} {xs : List Value} (h : w.ownsRow B e size v n xs) : ∃ a c, v = .slice a n c := by
  rcases h.2 with ⟨hv, hn⟩ | ⟨g, cap, cur, e1, _⟩
  · exact ⟨none, 0, by rw [hv, hn]⟩
  · exact ⟨_, _, e1⟩
set_option maxHeartbeats 32000000 in
set_option maxRecDepth 100000 in
theorem tpLog_any (w : World) (M tb : Nat) (full : Row) (s : St) (h : TpIs w M tb full s) (hl : full.length ≤ 1099511627776) (hM : M ≤ w.heap.size) (htb : tb < M) :
    Calls Try.prog 15 #[tp tb] w fun e w' => ∃ nv ds, e = .returned (logV (logS s).1 nv ds) ∧ StrsAt w' nv (logS s).1.com.names ∧ IntsAt w' ds (logS s).1.nodes ∧ TpIs w' M tb full (logS s).2 ∧ Kp [tb] w w' := by
  have hl2 := hl
  replace hl : full.length ≤ 140737488355328 := by omega
  obtain ⟨wa, hwa⟩ : ∃ x, w.alloc (.cells #[.int .i64 0, .int .i64 0, .int .i64 0, .string ⟨#[]⟩, .string ⟨#[]⟩, .string ⟨#[]⟩, .string ⟨#[]⟩, .string ⟨#[]⟩, .string ⟨#[]⟩, .slice none 0 0, .int .i64 0, .int .i64 0, .int .i64 0, .slice none 0 0] 39) = x := ⟨_, rfl⟩
  obtain ⟨w0, hw0⟩ : ∃ x, wa.alloc (.cells #[.int .i64 0, .int .i64 0, .int .i64 0, .string ⟨#[]⟩, .string ⟨#[]⟩, .string ⟨#[]⟩, .string ⟨#[]⟩, .string ⟨#[]⟩, .string ⟨#[]⟩, .slice none 0 0, .int .i64 0, .int .i64 0, .int .i64 0, .slice none 0 0] 39) = x := ⟨_, rfl⟩
  have hba : Below w.heap.size w wa := by rw [← hwa]; exact (Below.refl _ _).alloc (Nat.le_refl _) _
  have hb0 : Below wa.heap.size wa w0 := by rw [← hw0]; exact (Below.refl _ _).alloc (Nat.le_refl _) _
  have hra : wa.heap[w.heap.size]? = some (.cells #[.int .i64 0, .int .i64 0, .int .i64 0, .string ⟨#[]⟩, .string ⟨#[]⟩, .string ⟨#[]⟩, .string ⟨#[]⟩, .string ⟨#[]⟩, .string ⟨#[]⟩, .slice none 0 0, .int .i64 0, .int .i64 0, .int .i64 0, .slice none 0 0] 39 (0, 0)) := by rw [← hwa]; exact heap_alloc_new w _
  have hcb : w0.heap[wa.heap.size]? = some (.cells #[.int .i64 0, .int .i64 0, .int .i64 0, .string ⟨#[]⟩, .string ⟨#[]⟩, .string ⟨#[]⟩, .string ⟨#[]⟩, .string ⟨#[]⟩, .string ⟨#[]⟩, .slice none 0 0, .int .i64 0, .int .i64 0, .int .i64 0, .slice none 0 0] 39 (0, 0)) := by rw [← hw0]; exact heap_alloc_new wa _
  have hr0 := (hb0.block _ (Array.getElem?_eq_some_iff.1 hra).1).trans hra
  have hlt : w.heap.size < wa.heap.size := (Array.getElem?_eq_some_iff.1 hra).1
  have hbw : Below w.heap.size w w0 := hba.trans (hb0.mono hba.size)
  obtain ⟨R, hR⟩ : ∃ R, w.heap.size = R := ⟨_, rfl⟩
  obtain ⟨CB, hCB⟩ : ∃ CB, wa.heap.size = CB := ⟨_, rfl⟩
  rw [hR] at hr0 hlt
  rw [hCB] at hcb hlt
  obtain ⟨s0, hs0⟩ : ∃ x, s = x := ⟨_, rfl⟩
  have hS0 : Hid (TS w M tb full s0 R CB 39 #[.int .i64 0, .int .i64 0, .int .i64 0, .string ⟨#[]⟩, .string ⟨#[]⟩, .string ⟨#[]⟩, .string ⟨#[]⟩, .string ⟨#[]⟩, .string ⟨#[]⟩, .slice none 0 0, .int .i64 0, .int .i64 0, .int .i64 0, .slice none 0 0] #[.int .i64 0, .int .i64 0, .int .i64 0, .string ⟨#[]⟩, .string ⟨#[]⟩, .string ⟨#[]⟩, .string ⟨#[]⟩, .string ⟨#[]⟩, .string ⟨#[]⟩, .slice none 0 0, .int .i64 0, .int .i64 0, .int .i64 0, .slice none 0 0] w0) := Lib.hid ⟨by rw [← hs0]; exact h.kept hbw, hr0, hcb, Kp.of_below hbw, htb, hM, by omega, hlt⟩
  have hlt' := Lib.hid hlt
  obtain ⟨goal, hgoal⟩ : ∃ g, logS s = g := ⟨_, rfl⟩
  rw [hgoal]
  rw [hs0] at hgoal
  have hgoal' := Lib.hid hgoal
  clear h hba hb0 hra hcb hr0 hbw hs0 hgoal hlt
  go_enter Try.func15, Try.ntmps15
  go_wp2_with fail
  go_at_call 33
  refine (tpNumber_any w0 M tb full s0 hS0.out.tp hl).mono ?_
  rintro e u0 ⟨rfl, hT, hK⟩
  obtain ⟨Na, hNa⟩ : ∃ N, (numS s0).1 = N := ⟨_, rfl⟩
  have hwa : IntKind.i64.wrap (Na : Int) = (intS s0).1 := by rw [← hNa]; exact wrap_toI (numS_lt s0)
  obtain ⟨za, hza⟩ : ∃ z, (intS s0).1 = z := ⟨_, rfl⟩
  obtain ⟨s1, hs1⟩ : ∃ x, (intS s0).2 = x := ⟨_, rfl⟩
  rw [show (numS s0).2 = s1 from hs1] at hT
  rw [hza] at hwa
  rw [hNa]
  have hU0 := hS0.out.call hT hK
  have c0 := hU0.cell 0
  have f0 := hU0.froz 0
  obtain ⟨w1, hw1⟩ : ∃ x, u0.setCell ⟨CB, 0, none⟩ (.int .i64 za) = x := ⟨_, rfl⟩
  have hS1 : Hid (TS w M tb full s1 R CB 39 #[.int .i64 0, .int .i64 0, .int .i64 0, .string ⟨#[]⟩, .string ⟨#[]⟩, .string ⟨#[]⟩, .string ⟨#[]⟩, .string ⟨#[]⟩, .string ⟨#[]⟩, .slice none 0 0, .int .i64 0, .int .i64 0, .int .i64 0, .slice none 0 0] #[.int .i64 za, .int .i64 0, .int .i64 0, .string ⟨#[]⟩, .string ⟨#[]⟩, .string ⟨#[]⟩, .string ⟨#[]⟩, .string ⟨#[]⟩, .string ⟨#[]⟩, .slice none 0 0, .int .i64 0, .int .i64 0, .int .i64 0, .slice none 0 0] w1) := Lib.hid (by rw [← hw1]; exact hU0.set 0 _ rfl)
  have E0 := Lib.hid (And.intro hza hs1)
  clear hT hK hU0 hza hs1 hNa hS0
  go_wp2_with fail
  go_at_call 36
  refine (tpByte_any w1 M tb full s1 3 hS1.out.tp hl (by decide)).mono ?_
  rintro e u1 ⟨rfl, hT, hK⟩
  obtain ⟨N, hN⟩ : ∃ N, (knd s1).1 = N := ⟨_, rfl⟩
  obtain ⟨s2, hs2⟩ : ∃ x, (knd s1).2 = x := ⟨_, rfl⟩
  have hN256 : N < 256 := by rw [← hN]; exact bytS_lt s1
  rw [show wrong (decide (3 ≤ (bytS s1).1)) (bytS s1).2 = s2 from hs2] at hT
  rw [show (bytS s1).1 = N from hN]
  have hwk : IntKind.i64.wrap (N : Int) = (N : Int) := by rw [IntKind.wrap_i64]; omega
  have hU1 := hS1.out.call hT hK
  have c1 := hU1.cell 1
  have f1 := hU1.froz 1
  obtain ⟨w2, hw2⟩ : ∃ x, u1.setCell ⟨CB, 1, none⟩ (.int .i64 (N : Int)) = x := ⟨_, rfl⟩
  have hS2 : Hid (TS w M tb full s2 R CB 39 #[.int .i64 0, .int .i64 0, .int .i64 0, .string ⟨#[]⟩, .string ⟨#[]⟩, .string ⟨#[]⟩, .string ⟨#[]⟩, .string ⟨#[]⟩, .string ⟨#[]⟩, .slice none 0 0, .int .i64 0, .int .i64 0, .int .i64 0, .slice none 0 0] #[.int .i64 za, .int .i64 (N : Int), .int .i64 0, .string ⟨#[]⟩, .string ⟨#[]⟩, .string ⟨#[]⟩, .string ⟨#[]⟩, .string ⟨#[]⟩, .string ⟨#[]⟩, .slice none 0 0, .int .i64 0, .int .i64 0, .int .i64 0, .slice none 0 0] w2) := Lib.hid (by rw [← hw2]; exact hU1.set 1 _ rfl)
  have E1 := Lib.hid (And.intro hN hs2)
  clear hT hK hU1 hN hs2 hS1
  by_cases hN1 : N = 1
  · have e1 : ((N : Int) == 1) = true := by rw [hN1]; rfl
    have e2 : ((N : Int) == 2) = false := by rw [hN1]; rfl
    have hcbl := (Array.getElem?_eq_some_iff.1 hS2.out.cbk).1
    have hN1' := Lib.hid hN1
    clear hN1
    go_wp2_with fail
    go_at_call 13
    refine (tpCommand_any w2 M tb full s2 hS2.out.tp hl2 (by have := hS2.out.lo; omega) htb (CB + 1) (by omega)).mono ?_
    rintro e u2 ⟨nv, rfl, hO, hT, hK⟩
    obtain ⟨cm, hcm⟩ : ∃ z, (comS s2).1 = z := ⟨_, rfl⟩
    obtain ⟨s3, hs3⟩ : ∃ x, (comS s2).2 = x := ⟨_, rfl⟩
    rw [hcm] at hO
    rw [hs3] at hT
    rw [hcm]
    obtain ⟨na, nc, rfl⟩ := own_slice hO
    unfold comV comC sv
    have hU2 := hS2.out.call hT hK
    have d2 := hU2.cell 2
    have g2 := hU2.froz 2
    have d3 := hU2.cell 3
    have g3 := hU2.froz 3
    have d4 := hU2.cell 4
    have g4 := hU2.froz 4
    have d5 := hU2.cell 5
    have g5 := hU2.froz 5
    have d6 := hU2.cell 6
    have g6 := hU2.froz 6
    have d7 := hU2.cell 7
    have g7 := hU2.froz 7
    have d8 := hU2.cell 8
    have g8 := hU2.froz 8
    have d9 := hU2.cell 9
    have g9 := hU2.froz 9
    have d10 := hU2.cell 10
    have g10 := hU2.froz 10
    have d11 := hU2.cell 11
    have g11 := hU2.froz 11
    have d12 := hU2.cell 12
    have g12 := hU2.froz 12
    have t0 := hU2.set 2 (.int .i64 cm.op) (cc' := #[.int .i64 za, .int .i64 (N : Int), .int .i64 cm.op, .string ⟨#[]⟩, .string ⟨#[]⟩, .string ⟨#[]⟩, .string ⟨#[]⟩, .string ⟨#[]⟩, .string ⟨#[]⟩, .slice none 0 0, .int .i64 0, .int .i64 0, .int .i64 0, .slice none 0 0]) rfl
    have t1 := t0.set 3 (.string ⟨cm.book.toArray⟩) (cc' := #[.int .i64 za, .int .i64 (N : Int), .int .i64 cm.op, .string ⟨cm.book.toArray⟩, .string ⟨#[]⟩, .string ⟨#[]⟩, .string ⟨#[]⟩, .string ⟨#[]⟩, .string ⟨#[]⟩, .slice none 0 0, .int .i64 0, .int .i64 0, .int .i64 0, .slice none 0 0]) rfl
    have t2 := t1.set 4 (.string ⟨cm.name.toArray⟩) (cc' := #[.int .i64 za, .int .i64 (N : Int), .int .i64 cm.op, .string ⟨cm.book.toArray⟩, .string ⟨cm.name.toArray⟩, .string ⟨#[]⟩, .string ⟨#[]⟩, .string ⟨#[]⟩, .string ⟨#[]⟩, .slice none 0 0, .int .i64 0, .int .i64 0, .int .i64 0, .slice none 0 0]) rfl
    have t3 := t2.set 5 (.string ⟨cm.data.toArray⟩) (cc' := #[.int .i64 za, .int .i64 (N : Int), .int .i64 cm.op, .string ⟨cm.book.toArray⟩, .string ⟨cm.name.toArray⟩, .string ⟨cm.data.toArray⟩, .string ⟨#[]⟩, .string ⟨#[]⟩, .string ⟨#[]⟩, .slice none 0 0, .int .i64 0, .int .i64 0, .int .i64 0, .slice none 0 0]) rfl
    have t4 := t3.set 6 (.string ⟨cm.mat.toArray⟩) (cc' := #[.int .i64 za, .int .i64 (N : Int), .int .i64 cm.op, .string ⟨cm.book.toArray⟩, .string ⟨cm.name.toArray⟩, .string ⟨cm.data.toArray⟩, .string ⟨cm.mat.toArray⟩, .string ⟨#[]⟩, .string ⟨#[]⟩, .slice none 0 0, .int .i64 0, .int .i64 0, .int .i64 0, .slice none 0 0]) rfl
    have t5 := t4.set 7 (.string ⟨cm.non.toArray⟩) (cc' := #[.int .i64 za, .int .i64 (N : Int), .int .i64 cm.op, .string ⟨cm.book.toArray⟩, .string ⟨cm.name.toArray⟩, .string ⟨cm.data.toArray⟩, .string ⟨cm.mat.toArray⟩, .string ⟨cm.non.toArray⟩, .string ⟨#[]⟩, .slice none 0 0, .int .i64 0, .int .i64 0, .int .i64 0, .slice none 0 0]) rfl
    have t6 := t5.set 8 (.string ⟨cm.tok.toArray⟩) (cc' := #[.int .i64 za, .int .i64 (N : Int), .int .i64 cm.op, .string ⟨cm.book.toArray⟩, .string ⟨cm.name.toArray⟩, .string ⟨cm.data.toArray⟩, .string ⟨cm.mat.toArray⟩, .string ⟨cm.non.toArray⟩, .string ⟨cm.tok.toArray⟩, .slice none 0 0, .int .i64 0, .int .i64 0, .int .i64 0, .slice none 0 0]) rfl
    have t7 := t6.set 9 (.slice na cm.names.length nc) (cc' := #[.int .i64 za, .int .i64 (N : Int), .int .i64 cm.op, .string ⟨cm.book.toArray⟩, .string ⟨cm.name.toArray⟩, .string ⟨cm.data.toArray⟩, .string ⟨cm.mat.toArray⟩, .string ⟨cm.non.toArray⟩, .string ⟨cm.tok.toArray⟩, .slice na cm.names.length nc, .int .i64 0, .int .i64 0, .int .i64 0, .slice none 0 0]) rfl
    have t8 := t7.set 10 (.int .i64 cm.pos) (cc' := #[.int .i64 za, .int .i64 (N : Int), .int .i64 cm.op, .string ⟨cm.book.toArray⟩, .string ⟨cm.name.toArray⟩, .string ⟨cm.data.toArray⟩, .string ⟨cm.mat.toArray⟩, .string ⟨cm.non.toArray⟩, .string ⟨cm.tok.toArray⟩, .slice na cm.names.length nc, .int .i64 cm.pos, .int .i64 0, .int .i64 0, .slice none 0 0]) rfl
    have t9 := t8.set 11 (.int .i64 cm.ses) (cc' := #[.int .i64 za, .int .i64 (N : Int), .int .i64 cm.op, .string ⟨cm.book.toArray⟩, .string ⟨cm.name.toArray⟩, .string ⟨cm.data.toArray⟩, .string ⟨cm.mat.toArray⟩, .string ⟨cm.non.toArray⟩, .string ⟨cm.tok.toArray⟩, .slice na cm.names.length nc, .int .i64 cm.pos, .int .i64 cm.ses, .int .i64 0, .slice none 0 0]) rfl
    have t10 := t9.set 12 (.int .i64 cm.seq) (cc' := #[.int .i64 za, .int .i64 (N : Int), .int .i64 cm.op, .string ⟨cm.book.toArray⟩, .string ⟨cm.name.toArray⟩, .string ⟨cm.data.toArray⟩, .string ⟨cm.mat.toArray⟩, .string ⟨cm.non.toArray⟩, .string ⟨cm.tok.toArray⟩, .slice na cm.names.length nc, .int .i64 cm.pos, .int .i64 cm.ses, .int .i64 cm.seq, .slice none 0 0]) rfl
    obtain ⟨w3, hw3⟩ : ∃ x, (((((((((((u2.setCell ⟨CB, 2, none⟩ (.int .i64 cm.op)).setCell ⟨CB, 3, none⟩ (.string ⟨cm.book.toArray⟩)).setCell ⟨CB, 4, none⟩ (.string ⟨cm.name.toArray⟩)).setCell ⟨CB, 5, none⟩ (.string ⟨cm.data.toArray⟩)).setCell ⟨CB, 6, none⟩ (.string ⟨cm.mat.toArray⟩)).setCell ⟨CB, 7, none⟩ (.string ⟨cm.non.toArray⟩)).setCell ⟨CB, 8, none⟩ (.string ⟨cm.tok.toArray⟩)).setCell ⟨CB, 9, none⟩ (.slice na cm.names.length nc)).setCell ⟨CB, 10, none⟩ (.int .i64 cm.pos)).setCell ⟨CB, 11, none⟩ (.int .i64 cm.ses)).setCell ⟨CB, 12, none⟩ (.int .i64 cm.seq)) = x := ⟨_, rfl⟩
    have hS3 : Hid (TS w M tb full s3 R CB 39 #[.int .i64 0, .int .i64 0, .int .i64 0, .string ⟨#[]⟩, .string ⟨#[]⟩, .string ⟨#[]⟩, .string ⟨#[]⟩, .string ⟨#[]⟩, .string ⟨#[]⟩, .slice none 0 0, .int .i64 0, .int .i64 0, .int .i64 0, .slice none 0 0] #[.int .i64 za, .int .i64 (N : Int), .int .i64 cm.op, .string ⟨cm.book.toArray⟩, .string ⟨cm.name.toArray⟩, .string ⟨cm.data.toArray⟩, .string ⟨cm.mat.toArray⟩, .string ⟨cm.non.toArray⟩, .string ⟨cm.tok.toArray⟩, .slice na cm.names.length nc, .int .i64 cm.pos, .int .i64 cm.ses, .int .i64 cm.seq, .slice none 0 0] w3) := Lib.hid (by rw [← hw3]; exact t10)
    clear t0 t1 t2 t3 t4 t5 t6 t7 t8 t9 t10
    have hO3 : Hid (w3.ownsRow (CB + 1) 9 1 (.slice na cm.names.length nc) cm.names.length (cm.names.flatMap encS)) := Lib.hid (by
      rw [← hw3]
      show (setAll u2 CB 2 [.int .i64 cm.op, .string ⟨cm.book.toArray⟩, .string ⟨cm.name.toArray⟩, .string ⟨cm.data.toArray⟩, .string ⟨cm.mat.toArray⟩, .string ⟨cm.non.toArray⟩, .string ⟨cm.tok.toArray⟩, .slice na cm.names.length nc, .int .i64 cm.pos, .int .i64 cm.ses, .int .i64 cm.seq]).ownsRow _ _ _ _ _ _
      exact ownsRow_heap hO fun q hq => setAll_other (by have := (World.ownsRow.lt hO q hq).1; omega) _ _ _)
    have hD3 : Hid (w3.ownsRow (CB + 1) 3 1 (.slice none 0 0) ([] : List Int).length (([] : List Int).flatMap encI)) := Lib.hid (World.ownsRow_nil w3 _ _ 1)
    have E2 := Lib.hid (And.intro hcm hs3)
    clear hT hK hU2 hcm hs3 hS2 hO hcbl
    have x0 := hS3.out.cell 0
    have r0 := Lib.cell_of_heap hS3.out.rbk 0
    have fr0 := Lib.frozen_of_heap hS3.out.rbk 0
    have x1 := hS3.out.cell 1
    have r1 := Lib.cell_of_heap hS3.out.rbk 1
    have fr1 := Lib.frozen_of_heap hS3.out.rbk 1
    have x2 := hS3.out.cell 2
    have r2 := Lib.cell_of_heap hS3.out.rbk 2
    have fr2 := Lib.frozen_of_heap hS3.out.rbk 2
    have x3 := hS3.out.cell 3
    have r3 := Lib.cell_of_heap hS3.out.rbk 3
    have fr3 := Lib.frozen_of_heap hS3.out.rbk 3
    have x4 := hS3.out.cell 4
    have r4 := Lib.cell_of_heap hS3.out.rbk 4
    have fr4 := Lib.frozen_of_heap hS3.out.rbk 4
    have x5 := hS3.out.cell 5
    have r5 := Lib.cell_of_heap hS3.out.rbk 5
    have fr5 := Lib.frozen_of_heap hS3.out.rbk 5
    have x6 := hS3.out.cell 6
    have r6 := Lib.cell_of_heap hS3.out.rbk 6
    have fr6 := Lib.frozen_of_heap hS3.out.rbk 6
    have x7 := hS3.out.cell 7
    have r7 := Lib.cell_of_heap hS3.out.rbk 7
    have fr7 := Lib.frozen_of_heap hS3.out.rbk 7
    have x8 := hS3.out.cell 8
    have r8 := Lib.cell_of_heap hS3.out.rbk 8
    have fr8 := Lib.frozen_of_heap hS3.out.rbk 8
    have x9 := hS3.out.cell 9
    have r9 := Lib.cell_of_heap hS3.out.rbk 9
    have fr9 := Lib.frozen_of_heap hS3.out.rbk 9
    have x10 := hS3.out.cell 10
    have r10 := Lib.cell_of_heap hS3.out.rbk 10
    have fr10 := Lib.frozen_of_heap hS3.out.rbk 10
    have x11 := hS3.out.cell 11
    have r11 := Lib.cell_of_heap hS3.out.rbk 11
    have fr11 := Lib.frozen_of_heap hS3.out.rbk 11
    have x12 := hS3.out.cell 12
    have r12 := Lib.cell_of_heap hS3.out.rbk 12
    have fr12 := Lib.frozen_of_heap hS3.out.rbk 12
    have x13 := hS3.out.cell 13
    have r13 := Lib.cell_of_heap hS3.out.rbk 13
    have fr13 := Lib.frozen_of_heap hS3.out.rbk 13
    have hg := Lib.hid (show goal = (⟨za, (N : Int), cm, []⟩, s3) by
      rw [← hgoal'.out]
      unfold logS
      simp only [E0.out.1, E0.out.2]
      rw [E1.out.1, if_pos hN1'.out, E1.out.2, E2.out.1, E2.out.2, hN1'.out]
      rfl)
    have hF := hS3.out.fin [.int .i64 za, .int .i64 (N : Int), .int .i64 cm.op, .string ⟨cm.book.toArray⟩, .string ⟨cm.name.toArray⟩, .string ⟨cm.data.toArray⟩, .string ⟨cm.mat.toArray⟩, .string ⟨cm.non.toArray⟩, .string ⟨cm.tok.toArray⟩, .slice na cm.names.length nc, .int .i64 cm.pos, .int .i64 cm.ses, .int .i64 cm.seq, .slice none 0 0] rfl
    have hrn := rows_of (enc := encS) (fun _ => rfl) (by decide) (show (setAll w3 R 0 [.int .i64 za, .int .i64 (N : Int), .int .i64 cm.op, .string ⟨cm.book.toArray⟩, .string ⟨cm.name.toArray⟩, .string ⟨cm.data.toArray⟩, .string ⟨cm.mat.toArray⟩, .string ⟨cm.non.toArray⟩, .string ⟨cm.tok.toArray⟩, .slice na cm.names.length nc, .int .i64 cm.pos, .int .i64 cm.ses, .int .i64 cm.seq, .slice none 0 0]).ownsRow (CB + 1) 9 1 (.slice na cm.names.length nc) cm.names.length (cm.names.flatMap encS) from ownsRow_heap hO3.out fun q hq => setAll_other (by have := (World.ownsRow.lt hO3.out q hq).1; have := hS3.out.lo; omega) _ _ _)
    have hrd := rows_of (enc := encI) (fun _ => rfl) (by decide) (show (setAll w3 R 0 [.int .i64 za, .int .i64 (N : Int), .int .i64 cm.op, .string ⟨cm.book.toArray⟩, .string ⟨cm.name.toArray⟩, .string ⟨cm.data.toArray⟩, .string ⟨cm.mat.toArray⟩, .string ⟨cm.non.toArray⟩, .string ⟨cm.tok.toArray⟩, .slice na cm.names.length nc, .int .i64 cm.pos, .int .i64 cm.ses, .int .i64 cm.seq, .slice none 0 0]).ownsRow (CB + 1) 3 1 (.slice none 0 0) ([] : List Int).length (([] : List Int).flatMap encI) from ownsRow_heap hD3.out fun q hq => setAll_other (by have := (World.ownsRow.lt hD3.out q hq).1; have := hS3.out.lo; omega) _ _ _)
    simp only [setAll, Nat.reduceAdd, Nat.zero_add] at hF hrn hrd
    have hF' := Lib.hid (And.intro hF (And.intro hrn hrd))
    clear hF hrn hrd
    go_wp2
    have hres := fun tm (hp : tm.getD 2 undef = .pointer (some ⟨R, 0, none⟩)) => results_cell_row (fn := Try.f15) (p := 2) (ty := 39) rfl tm _ R _ _ _ _ hp hF'.out.1.1 Try.underlying39 rfl (by kernel_rfl)
    refine bodyPost_ret (hres _ rfl) rfl ⟨(.slice na cm.names.length nc), (.slice none 0 0), ?_, ?_, ?_, ?_, hF'.out.1.2.2⟩
    · rw [hg.out]; rfl
    · rw [hg.out]; exact hF'.out.2.1
    · rw [hg.out]; exact hF'.out.2.2
    · rw [hg.out]; exact hF'.out.1.2.1
  by_cases hN2 : N = 2
  · have e1 : ((N : Int) == 1) = false := by rw [hN2]; rfl
    have e2 : ((N : Int) == 2) = true := by rw [hN2]; rfl
    have hN2' := Lib.hid hN2
    clear hN2 hN1
    go_wp2_with fail
    go_at_call 35
    refine (tpCount_any w2 M tb full s2 hS2.out.tp hl).mono ?_
    rintro e w3 ⟨rfl, hT, hK⟩
    obtain ⟨n, hn⟩ : ∃ n, (cntS s2).1 = n := ⟨_, rfl⟩
    obtain ⟨s3, hs3⟩ : ∃ x, (cntS s2).2 = x := ⟨_, rfl⟩
    rw [hs3] at hT
    rw [hn]
    have hnl : n ≤ full.length := cnt_le hn hs3 hT
    have hS3 := Lib.hid (hS2.out.call hT hK)
    have hN0 : Hid (w3.ownsRow (CB + 1) 3 1 (.slice none 0 0) ([] : List Int).length (([] : List Int).flatMap encI)) := Lib.hid (World.ownsRow_nil w3 _ _ 1)
    obtain ⟨rgoal, hrg⟩ : ∃ g, rowS intS s2 = g := ⟨_, rfl⟩
    have hgo : Going intS rgoal [] n s3 := by
      rw [← hrg]
      unfold rowS
      rw [hn, hs3]
      exact Going.start _ _ _
    have hgo' := Lib.hid hgo
    have hrg' := Lib.hid hrg
    clear hT hK hn hs3 hgo hrg hS2
    go_wp2
    go_loopw [6] (fun s6 wr => ∃ (k : Nat) (acc : List Int) (sr : St) (ao : Option Addr) (ac : Nat), s6 = .int .i64 (k : Int) ∧ k ≤ n ∧ acc.length = k ∧ Hid (Going intS rgoal acc (n - k) sr) ∧ Hid (TS w M tb full sr R CB 39 #[.int .i64 0, .int .i64 0, .int .i64 0, .string ⟨#[]⟩, .string ⟨#[]⟩, .string ⟨#[]⟩, .string ⟨#[]⟩, .string ⟨#[]⟩, .string ⟨#[]⟩, .slice none 0 0, .int .i64 0, .int .i64 0, .int .i64 0, .slice none 0 0] #[.int .i64 za, .int .i64 (N : Int), .int .i64 0, .string ⟨#[]⟩, .string ⟨#[]⟩, .string ⟨#[]⟩, .string ⟨#[]⟩, .string ⟨#[]⟩, .string ⟨#[]⟩, .slice none 0 0, .int .i64 0, .int .i64 0, .int .i64 0, .slice ao acc.length ac] wr) ∧ Hid (wr.ownsRow (CB + 1) 3 1 (.slice ao acc.length ac) acc.length (acc.flatMap encI))) (fun s6 _ => n - (RowKit.intOf s6).toNat)
    case atStart => exact ⟨0, [], s3, none, 0, by rfl, Nat.zero_le _, rfl, hgo', hS3, hN0⟩
    case round =>
      obtain ⟨k, acc, s9, ao, ac, rfl, hk, hak, hG, hS9, hO⟩ := hrel
      obtain ⟨A, b, off, c, kk, sh, fm, hRx, hsx⟩ := hS9.out.tp
      have y2 := Lib.cell_of_heap hRx.cells 2
      have hak' := Lib.hid hak
      have hsx' := Lib.hid hsx
      clear hRx hak hsx
      have hgone : ((¬ (k : Int) < (n : Int)) ∨ ((k : Int) < (n : Int) ∧ sh = true)) ∨ ((k : Int) < (n : Int) ∧ sh = false) := by
        cases sh <;> simp <;> omega
      rcases hgone with hgo | ⟨hlt, rfl⟩
      · have hE8 : Hid (rowS intS s2 = (acc, s9)) := Lib.hid (by
          rw [hrg'.out]
          rcases hgo with hge | ⟨_, rfl⟩
          · have h1 := hG.out
            rw [show n - k = 0 by omega] at h1
            exact h1.fin
          · have h1 := hG.out
            have h2 := hsx'.out
            unfold stOf at h2
            simp only [if_true] at h2
            rw [h2] at h1 ⊢
            exact h1.gone)
        have hW9 : Hid (wr.ownsRow (CB + 1) 9 1 (.slice none 0 0) ([] : List Row).length (([] : List Row).flatMap encS)) := Lib.hid (World.ownsRow_nil wr _ _ 1)
        clear hG hrg'
        rcases hgo with hge | ⟨hlt, rfl⟩
        all_goals
          have x0 := hS9.out.cell 0
          have r0 := Lib.cell_of_heap hS9.out.rbk 0
          have fr0 := Lib.frozen_of_heap hS9.out.rbk 0
          have x1 := hS9.out.cell 1
          have r1 := Lib.cell_of_heap hS9.out.rbk 1
          have fr1 := Lib.frozen_of_heap hS9.out.rbk 1
          have x2 := hS9.out.cell 2
          have r2 := Lib.cell_of_heap hS9.out.rbk 2
          have fr2 := Lib.frozen_of_heap hS9.out.rbk 2
          have x3 := hS9.out.cell 3
          have r3 := Lib.cell_of_heap hS9.out.rbk 3
          have fr3 := Lib.frozen_of_heap hS9.out.rbk 3
          have x4 := hS9.out.cell 4
          have r4 := Lib.cell_of_heap hS9.out.rbk 4
          have fr4 := Lib.frozen_of_heap hS9.out.rbk 4
          have x5 := hS9.out.cell 5
          have r5 := Lib.cell_of_heap hS9.out.rbk 5
          have fr5 := Lib.frozen_of_heap hS9.out.rbk 5
          have x6 := hS9.out.cell 6
          have r6 := Lib.cell_of_heap hS9.out.rbk 6
          have fr6 := Lib.frozen_of_heap hS9.out.rbk 6
          have x7 := hS9.out.cell 7
          have r7 := Lib.cell_of_heap hS9.out.rbk 7
          have fr7 := Lib.frozen_of_heap hS9.out.rbk 7
          have x8 := hS9.out.cell 8
          have r8 := Lib.cell_of_heap hS9.out.rbk 8
          have fr8 := Lib.frozen_of_heap hS9.out.rbk 8
          have x9 := hS9.out.cell 9
          have r9 := Lib.cell_of_heap hS9.out.rbk 9
          have fr9 := Lib.frozen_of_heap hS9.out.rbk 9
          have x10 := hS9.out.cell 10
          have r10 := Lib.cell_of_heap hS9.out.rbk 10
          have fr10 := Lib.frozen_of_heap hS9.out.rbk 10
          have x11 := hS9.out.cell 11
          have r11 := Lib.cell_of_heap hS9.out.rbk 11
          have fr11 := Lib.frozen_of_heap hS9.out.rbk 11
          have x12 := hS9.out.cell 12
          have r12 := Lib.cell_of_heap hS9.out.rbk 12
          have fr12 := Lib.frozen_of_heap hS9.out.rbk 12
          have x13 := hS9.out.cell 13
          have r13 := Lib.cell_of_heap hS9.out.rbk 13
          have fr13 := Lib.frozen_of_heap hS9.out.rbk 13
          have hg := Lib.hid (show goal = (⟨za, (N : Int), com0, acc⟩, s9) by
            rw [← hgoal'.out]
            unfold logS
            simp only [E0.out.1, E0.out.2]
            rw [E1.out.1, if_neg (by rw [hN2'.out]; decide), if_pos hN2'.out, E1.out.2, hE8.out, hN2'.out]
            rfl)
          have hF := hS9.out.fin [.int .i64 za, .int .i64 (N : Int), .int .i64 0, .string ⟨#[]⟩, .string ⟨#[]⟩, .string ⟨#[]⟩, .string ⟨#[]⟩, .string ⟨#[]⟩, .string ⟨#[]⟩, .slice none 0 0, .int .i64 0, .int .i64 0, .int .i64 0, .slice ao acc.length ac] rfl
          have hrn := rows_of (enc := encS) (fun _ => rfl) (by decide) (show (setAll wr R 0 [.int .i64 za, .int .i64 (N : Int), .int .i64 0, .string ⟨#[]⟩, .string ⟨#[]⟩, .string ⟨#[]⟩, .string ⟨#[]⟩, .string ⟨#[]⟩, .string ⟨#[]⟩, .slice none 0 0, .int .i64 0, .int .i64 0, .int .i64 0, .slice ao acc.length ac]).ownsRow (CB + 1) 9 1 (.slice none 0 0) ([] : List Row).length (([] : List Row).flatMap encS) from ownsRow_heap hW9.out fun q hq => setAll_other (by have := (World.ownsRow.lt hW9.out q hq).1; have := hS9.out.lo; omega) _ _ _)
          have hrd := rows_of (enc := encI) (fun _ => rfl) (by decide) (show (setAll wr R 0 [.int .i64 za, .int .i64 (N : Int), .int .i64 0, .string ⟨#[]⟩, .string ⟨#[]⟩, .string ⟨#[]⟩, .string ⟨#[]⟩, .string ⟨#[]⟩, .string ⟨#[]⟩, .slice none 0 0, .int .i64 0, .int .i64 0, .int .i64 0, .slice ao acc.length ac]).ownsRow (CB + 1) 3 1 (.slice ao acc.length ac) acc.length (acc.flatMap encI) from ownsRow_heap hO.out fun q hq => setAll_other (by have := (World.ownsRow.lt hO.out q hq).1; have := hS9.out.lo; omega) _ _ _)
          simp only [setAll, Nat.reduceAdd, Nat.zero_add] at hF hrn hrd
          have hF' := Lib.hid (And.intro hF (And.intro hrn hrd))
          clear hF hrn hrd
          go_wp2
          have hres := fun tm (hp : tm.getD 2 undef = .pointer (some ⟨R, 0, none⟩)) => results_cell_row (fn := Try.f15) (p := 2) (ty := 39) rfl tm _ R _ _ _ _ hp hF'.out.1.1 Try.underlying39 rfl (by kernel_rfl)
          refine bodyPost_ret (hres _ rfl) rfl ⟨(.slice none 0 0), (.slice ao acc.length ac), ?_, ?_, ?_, ?_, hF'.out.1.2.2⟩
          · rw [hg.out]; rfl
          · rw [hg.out]; exact hF'.out.2.1
          · rw [hg.out]; exact hF'.out.2.2
          · rw [hg.out]; exact hF'.out.1.2.1
      · obtain ⟨m, hm⟩ : ∃ m, n - k = m + 1 := ⟨n - k - 1, by omega⟩
        have h2 := hsx'.out
        unfold stOf at h2
        simp only [Bool.false_eq_true, if_false] at h2
        have hG2 := hG.out
        rw [hm, h2] at hG2
        have hG3 := hG2.step
        rw [← h2] at hG3
        have hm' := Lib.hid hm
        have hG3' := Lib.hid hG3
        clear h2 hG2 hG hsx' hm hG3
        go_wp2_with fail
        go_at_call 33
        refine (tpNumber_any wr M tb full s9 hS9.out.tp hl).mono ?_
        rintro e u9 ⟨rfl, hT, hK⟩
        obtain ⟨Nq, hNq⟩ : ∃ N, (numS s9).1 = N := ⟨_, rfl⟩
        have hwq : IntKind.i64.wrap (Nq : Int) = (intS s9).1 := by rw [← hNq]; exact wrap_toI (numS_lt s9)
        obtain ⟨zq, hzq⟩ : ∃ z, (intS s9).1 = z := ⟨_, rfl⟩
        obtain ⟨s10, hs10⟩ : ∃ x, (intS s9).2 = x := ⟨_, rfl⟩
        rw [show (numS s9).2 = s10 from hs10] at hT
        rw [hzq] at hwq
        rw [hNq]
        have hU9 := Lib.hid (hS9.out.call hT hK)
        have hOu := Lib.hid (ownsRow_heap hO.out fun g hg => hK.block g (World.ownsRow.lt hO.out g hg).2 (by have := (World.ownsRow.lt hO.out g hg).1; have := hS9.out.lo; simp; omega))
        have d4 := hU9.out.cell 13
        have hlen : (acc.length + 1) * 8 ≤ 140737488355328 := by have := hak'.out; omega
        have hmax : acc.length + 1 ≤ maxLen := by unfold maxLen; have := hak'.out; omega
        have hcbl := (Array.getElem?_eq_some_iff.1 hU9.out.cbk).1
        have E9 := Lib.hid (And.intro hzq hs10)
        clear hT hK hNq hzq hs10 hS9 hO
        go_wp2_with (first
          | (at_builtin; refine append_el (enc := encI) (size := 1) (bytes := 8) (et := 3) (st := 37) (z := .int .i64 0) Try.underlying37 infoInt rfl (fun _ => rfl) (fun x u hu => by simp [encI] at hu; rw [hu]; rfl) (by decide) (zq : Int) rfl rfl _ _ rfl (CB + 1) _ acc _ rfl rfl rfl hOu.out hlen hmax (by omega) ?_; intro g cap w2 hw2; have hW2 := Lib.hid hw2; have hV := hU9.out.row hW2.out.kp (fun g hg => (World.ownsRow.lt hOu.out g hg).1); have v7 := hV.cell 13; have g7 := hV.froz 13)
          | fail)
        have hO2 := hW2.out.own
        have hen : Hid (intS s9 = (zq, s10)) := Lib.hid (by rw [← E9.out.1, ← E9.out.2])
        have hG4 := hG3'.out
        rw [hen.out] at hG4
        have hG4' := Lib.hid hG4
        have hal : (acc ++ [zq]).length = acc.length + 1 := by simp
        have hrel2 : Hid (TS w M tb full s10 R CB 39 #[.int .i64 0, .int .i64 0, .int .i64 0, .string ⟨#[]⟩, .string ⟨#[]⟩, .string ⟨#[]⟩, .string ⟨#[]⟩, .string ⟨#[]⟩, .string ⟨#[]⟩, .slice none 0 0, .int .i64 0, .int .i64 0, .int .i64 0, .slice none 0 0] #[.int .i64 za, .int .i64 (N : Int), .int .i64 0, .string ⟨#[]⟩, .string ⟨#[]⟩, .string ⟨#[]⟩, .string ⟨#[]⟩, .string ⟨#[]⟩, .string ⟨#[]⟩, .slice none 0 0, .int .i64 0, .int .i64 0, .int .i64 0, .slice (some ⟨g, 0, none⟩) (acc.length + 1) cap] (w2.setCell ⟨CB, 13, none⟩ (.slice (some ⟨g, 0, none⟩) (acc.length + 1) cap)) ∧ (w2.setCell ⟨CB, 13, none⟩ (.slice (some ⟨g, 0, none⟩) (acc.length + 1) cap)).ownsRow (CB + 1) 3 1 (.slice (some ⟨g, 0, none⟩) (acc.length + 1) cap) (acc ++ [zq]).length ((acc ++ [zq]).flatMap encI)) :=
          Lib.hid ⟨hV.set 13 _ rfl, ownsRow_heap hO2 fun q hq => Below.heap_setCell _ _ _ q (by have := (World.ownsRow.lt hO2 q hq).1; show q ≠ CB; omega)⟩
        have hal' := Lib.hid hal
        clear hw2 hV hO2 hal hG4
        go_wp2
        go_roundw
        case rel => exact ⟨k + 1, acc ++ [zq], s10, some ⟨g, 0, none⟩, cap, by go_num, by omega, by rw [hal'.out, hak'.out], Lib.hid (by rw [show n - (k + 1) = m by have := hm'.out; omega]; exact hG4'.out), Lib.hid (by rw [hal'.out]; exact hrel2.out.1), Lib.hid (by have := hrel2.out.2; rw [hal'.out] at this ⊢; exact this)⟩
        case measure => simp [RowKit.intOf]; omega
  · have e1 : ((N : Int) == 1) = false := by rw [beq_eq_false_iff_ne]; omega
    have e2 : ((N : Int) == 2) = false := by rw [beq_eq_false_iff_ne]; omega
    have hN1' := Lib.hid hN1
    have hN2' := Lib.hid hN2
    have hO2 : Hid (w2.ownsRow (CB + 1) 9 1 (.slice none 0 0) ([] : List Row).length (([] : List Row).flatMap encS)) := Lib.hid (World.ownsRow_nil w2 _ _ 1)
    have hD2 : Hid (w2.ownsRow (CB + 1) 3 1 (.slice none 0 0) ([] : List Int).length (([] : List Int).flatMap encI)) := Lib.hid (World.ownsRow_nil w2 _ _ 1)
    clear hN1 hN2
    have x0 := hS2.out.cell 0
    have r0 := Lib.cell_of_heap hS2.out.rbk 0
    have fr0 := Lib.frozen_of_heap hS2.out.rbk 0
    have x1 := hS2.out.cell 1
    have r1 := Lib.cell_of_heap hS2.out.rbk 1
    have fr1 := Lib.frozen_of_heap hS2.out.rbk 1
    have x2 := hS2.out.cell 2
    have r2 := Lib.cell_of_heap hS2.out.rbk 2
    have fr2 := Lib.frozen_of_heap hS2.out.rbk 2
    have x3 := hS2.out.cell 3
    have r3 := Lib.cell_of_heap hS2.out.rbk 3
    have fr3 := Lib.frozen_of_heap hS2.out.rbk 3
    have x4 := hS2.out.cell 4
    have r4 := Lib.cell_of_heap hS2.out.rbk 4
    have fr4 := Lib.frozen_of_heap hS2.out.rbk 4
    have x5 := hS2.out.cell 5
    have r5 := Lib.cell_of_heap hS2.out.rbk 5
    have fr5 := Lib.frozen_of_heap hS2.out.rbk 5
    have x6 := hS2.out.cell 6
    have r6 := Lib.cell_of_heap hS2.out.rbk 6
    have fr6 := Lib.frozen_of_heap hS2.out.rbk 6
    have x7 := hS2.out.cell 7
    have r7 := Lib.cell_of_heap hS2.out.rbk 7
    have fr7 := Lib.frozen_of_heap hS2.out.rbk 7
    have x8 := hS2.out.cell 8
    have r8 := Lib.cell_of_heap hS2.out.rbk 8
    have fr8 := Lib.frozen_of_heap hS2.out.rbk 8
    have x9 := hS2.out.cell 9
    have r9 := Lib.cell_of_heap hS2.out.rbk 9
    have fr9 := Lib.frozen_of_heap hS2.out.rbk 9
    have x10 := hS2.out.cell 10
    have r10 := Lib.cell_of_heap hS2.out.rbk 10
    have fr10 := Lib.frozen_of_heap hS2.out.rbk 10
    have x11 := hS2.out.cell 11
    have r11 := Lib.cell_of_heap hS2.out.rbk 11
    have fr11 := Lib.frozen_of_heap hS2.out.rbk 11
    have x12 := hS2.out.cell 12
    have r12 := Lib.cell_of_heap hS2.out.rbk 12
    have fr12 := Lib.frozen_of_heap hS2.out.rbk 12
    have x13 := hS2.out.cell 13
    have r13 := Lib.cell_of_heap hS2.out.rbk 13
    have fr13 := Lib.frozen_of_heap hS2.out.rbk 13
    have hg := Lib.hid (show goal = (⟨za, (N : Int), com0, []⟩, s2) by
      rw [← hgoal'.out]
      unfold logS
      simp only [E0.out.1, E0.out.2]
      rw [E1.out.1, if_neg hN1'.out, if_neg hN2'.out, E1.out.2])
    have hF := hS2.out.fin [.int .i64 za, .int .i64 (N : Int), .int .i64 0, .string ⟨#[]⟩, .string ⟨#[]⟩, .string ⟨#[]⟩, .string ⟨#[]⟩, .string ⟨#[]⟩, .string ⟨#[]⟩, .slice none 0 0, .int .i64 0, .int .i64 0, .int .i64 0, .slice none 0 0] rfl
    have hrn := rows_of (enc := encS) (fun _ => rfl) (by decide) (show (setAll w2 R 0 [.int .i64 za, .int .i64 (N : Int), .int .i64 0, .string ⟨#[]⟩, .string ⟨#[]⟩, .string ⟨#[]⟩, .string ⟨#[]⟩, .string ⟨#[]⟩, .string ⟨#[]⟩, .slice none 0 0, .int .i64 0, .int .i64 0, .int .i64 0, .slice none 0 0]).ownsRow (CB + 1) 9 1 (.slice none 0 0) ([] : List Row).length (([] : List Row).flatMap encS) from ownsRow_heap hO2.out fun q hq => setAll_other (by have := (World.ownsRow.lt hO2.out q hq).1; have := hS2.out.lo; omega) _ _ _)
    have hrd := rows_of (enc := encI) (fun _ => rfl) (by decide) (show (setAll w2 R 0 [.int .i64 za, .int .i64 (N : Int), .int .i64 0, .string ⟨#[]⟩, .string ⟨#[]⟩, .string ⟨#[]⟩, .string ⟨#[]⟩, .string ⟨#[]⟩, .string ⟨#[]⟩, .slice none 0 0, .int .i64 0, .int .i64 0, .int .i64 0, .slice none 0 0]).ownsRow (CB + 1) 3 1 (.slice none 0 0) ([] : List Int).length (([] : List Int).flatMap encI) from ownsRow_heap hD2.out fun q hq => setAll_other (by have := (World.ownsRow.lt hD2.out q hq).1; have := hS2.out.lo; omega) _ _ _)
    simp only [setAll, Nat.reduceAdd, Nat.zero_add] at hF hrn hrd
    have hF' := Lib.hid (And.intro hF (And.intro hrn hrd))
    clear hF hrn hrd
    go_wp2
    have hres := fun tm (hp : tm.getD 2 undef = .pointer (some ⟨R, 0, none⟩)) => results_cell_row (fn := Try.f15) (p := 2) (ty := 39) rfl tm _ R _ _ _ _ hp hF'.out.1.1 Try.underlying39 rfl (by kernel_rfl)
    refine bodyPost_ret (hres _ rfl) rfl ⟨(.slice none 0 0), (.slice none 0 0), ?_, ?_, ?_, ?_, hF'.out.1.2.2⟩
    · rw [hg.out]; rfl
    · rw [hg.out]; exact hF'.out.2.1
    · rw [hg.out]; exact hF'.out.2.2
    · rw [hg.out]; exact hF'.out.1.2.1
end Go.Proofs.Ytpngbfmbjldieaa.Cd
