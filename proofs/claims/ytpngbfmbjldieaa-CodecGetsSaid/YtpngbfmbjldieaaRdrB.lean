/-
  A READER IN MEMORY: the walks of word, Whole, Count, Byte, Need, Flag, End, Of.
-/
import Derived.Test.YtpngbfmbjldieaaRdrA
import Derived.Laws.BytesArg
import Derived.Laws.IdiomStrings
set_option linter.unusedVariables false
namespace Go.Proofs.Ytpngbfmbjldieaa.Ly
open Go.Lib Go.RowKit
open Bo (Kp Row ownsRow_heap sv sv_data)
open Cd (St takeS takeS_few takeS_all numS intS toI RowsAt wrap_toI numS_lt cntS cntB cntB_no cntB_yes txtS bytS flgS wrong endS wrapU_nat)

abbrev rr (rb : Nat) : Value := .pointer (some ⟨rb, 0, none⟩)
/-- one byte's cell -/
theorem bts_one {w : World} {v : Value} {x : Row} (h : BtsAt w v x) : ∃ (A : Option Addr) (b off c : Nat), v = .slice A x.length c ∧ x.length ≤ c ∧ c ≤ maxLen ∧ (0 < x.length → A = some ⟨b, off, none⟩ ∧ b < w.heap.size) ∧ ∀ (j : Nat) (y : UInt8), x[j]? = some y → w.cell? ⟨b, off + j, none⟩ = some (.int .u8 (y.toNat : Int)) := Cd.rows_one (f := fun y : UInt8 => .int .u8 (y.toNat : Int)) (fun _ => rfl) h
theorem take_len (n : Nat) (s : St) : (takeS n s).1.length = n ∨ (takeS n s).1 = [] ∧ (takeS n s).2 = none := by
  cases s with
  | none => exact .inr ⟨rfl, rfl⟩
  | some s =>
    obtain ⟨l, f⟩ := s
    by_cases h : l.length < n
    · rw [takeS_few f h]; exact .inr ⟨rfl, rfl⟩
    · rw [takeS_all f (by omega)]; exact .inl (by show (l.take n).length = n; rw [List.length_take]; omega)
theorem take_gone {n : Nat} {s : St} (h : (takeS n s).2 = none) : (takeS n s).1 = [] := by
  cases s with
  | none => rfl
  | some s =>
    obtain ⟨l, f⟩ := s
    by_cases hl : l.length < n
    · rw [takeS_few f hl]
    · rw [takeS_all f (by omega)] at h; cases h

set_option maxHeartbeats 8000000 in
set_option maxRecDepth 100000 in
theorem rWord_any (w : World) (rb : Nat) (s : St) (h : RdIs w rb s) :
    Calls Try.prog 61 #[rr rb] w fun e w' => e = .returned (.int .u64 ((numS s).1 : Int)) ∧ RdIs w' rb (numS s).2 ∧ Kp [rb] w w' := by
  have cT := rTake_any w rb s 8 h
  have hx8 : (takeS 8 s).1.length ≤ 8 := by rcases take_len 8 s with e | ⟨e, _⟩ <;> rw [e] <;> simp
  unfold numS
  obtain ⟨x, hx⟩ : ∃ x, (takeS 8 s).1 = x := ⟨_, rfl⟩
  obtain ⟨s2, hs2⟩ : ∃ x, (takeS 8 s).2 = x := ⟨_, rfl⟩
  rw [hx, hs2] at cT
  rw [hx] at hx8
  show Calls Try.prog _ _ w fun e w' => e = .returned (.int .u64 (num (takeS 8 s).1 : Int)) ∧ RdIs w' rb (takeS 8 s).2 ∧ Kp [rb] w w'
  rw [hx, hs2]
  clear hx hs2 h
  go_enter Try.func61, Try.ntmps61
  go_wp2_with fail
  go_at_call 62
  refine cT.mono ?_
  rintro e w1 ⟨v, rfl, hb, hR, hK, -⟩
  obtain ⟨A, db, off, c, rfl, k1, k2, k3, k4⟩ := bts_one hb
  have k3' := Lib.hid k3
  have k4' := Lib.hid k4
  have hX := Lib.hid (And.intro hR hK)
  clear cT hb hR hK k3 k4
  go_wp2
  go_loopw [3, 9] (fun s3 s9 wr => wr = w1 ∧ ∃ k : Nat, s9 = .int .i64 (k : Int) ∧ k ≤ x.length ∧ s3 = .int .u64 (num (x.take k) : Int)) (fun _ s9 wr => x.length - (RowKit.intOf s9).toNat)
  case atStart => exact ⟨rfl, 0, rfl, by omega, rfl⟩
  case round =>
    obtain ⟨rfl, k, rfl, hk, rfl⟩ := hrel
    by_cases hlt : k < x.length
    · obtain ⟨b, hbk⟩ : ∃ b, x[k]? = some b := ⟨_, List.getElem?_eq_getElem (by omega)⟩
      have hcb := k4'.out k b hbk
      obtain ⟨rfl, hdb⟩ := k3'.out (by omega)
      obtain ⟨z, hz⟩ : ∃ z : Nat, num (x.take k) = z := ⟨_, rfl⟩
      have hz256 : z * 256 < 18446744073709551616 := by
        have h1 := num_lt k (x.take k) (by rw [List.length_take]; omega)
        have h2 : 256 ^ k ≤ 256 ^ 7 := Nat.pow_le_pow_right (by decide) (by omega)
        rw [hz] at h1
        omega
      have hsn : num (x.take (k + 1)) = z * 256 + b.toNat := by
        have e := (List.getElem?_eq_some_iff.1 hbk)
        rw [List.take_succ_eq_append_getElem e.1, num_snoc, hz, e.2]
      have hor := Lib.hid (or_byte z b hz256)
      have hsn' := Lib.hid hsn
      rw [hz]
      clear hsn hbk hz
      go_wp2
      go_roundw
      case rel => exact ⟨trivial, k + 1, by go_num, by omega, by rw [hsn'.out, hor.out]⟩
      case measure => simp [RowKit.intOf]; omega
    · obtain rfl : k = x.length := by omega
      have htk : x.take x.length = x := List.take_of_length_le (Nat.le_refl _)
      rw [htk]
      go_wp2
      go_ret
      exact ⟨rfl, hX.out.1, hX.out.2⟩
set_option maxHeartbeats 4000000 in
theorem rWhole_any (w : World) (rb : Nat) (s : St) (h : RdIs w rb s) :
    Calls Try.prog 48 #[rr rb] w fun e w' => e = .returned (.int .i64 (intS s).1) ∧ RdIs w' rb (intS s).2 ∧ Kp [rb] w w' := by
  have cW := rWord_any w rb s h
  have hl := numS_lt s
  unfold intS
  obtain ⟨n, hn⟩ : ∃ n, (numS s).1 = n := ⟨_, rfl⟩
  obtain ⟨s2, hs2⟩ : ∃ x, (numS s).2 = x := ⟨_, rfl⟩
  show Calls Try.prog _ _ w fun e w' => e = .returned (.int .i64 (toI (numS s).1)) ∧ RdIs w' rb (numS s).2 ∧ Kp [rb] w w'
  rw [hn, hs2] at cW ⊢
  rw [hn] at hl
  have hw := wrap_toI hl
  obtain ⟨z, hz⟩ : ∃ z, toI n = z := ⟨_, rfl⟩
  rw [hz] at hw ⊢
  clear hn hs2 h hz hl
  go_enter Try.func48, Try.ntmps48
  go_wp2_with fail
  go_at_call 61
  refine cW.mono ?_
  rintro e w1 ⟨rfl, hR, hK⟩
  have hX := Lib.hid (And.intro hR hK)
  clear cW hR hK
  go_wp2
  go_ret
  exact ⟨rfl, hX.out⟩
/-- how many bytes are left -/
theorem RdIs.left {w : World} {rb : Nat} {s : St} (h : RdIs w rb s) : ∃ A n c sh fm, w.heap[rb]? = some (.cells #[.slice A n c, .bool sh, .bool fm] 106 (0, 0)) ∧ (match s with | none => n = 0 | some (l, _) => n = l.length) ∧ n ≤ maxLen := by
  cases s with
  | none => obtain ⟨fm, h⟩ := h; exact ⟨_, _, _, _, _, h, rfl, Nat.zero_le _⟩
  | some s => obtain ⟨l, fm⟩ := s; obtain ⟨A, b, off, c, h1, h2, h3, _⟩ := h; exact ⟨_, _, _, _, _, h1, rfl, Nat.le_trans h2 h3⟩
set_option maxHeartbeats 4000000 in
theorem rCount_any (w : World) (rb : Nat) (s : St) (h : RdIs w rb s) :
    Calls Try.prog 63 #[rr rb] w fun e w' => e = .returned (.int .i64 ((cntS s).1 : Int)) ∧ RdIs w' rb (cntS s).2 ∧ Kp [rb] w w' := by
  have cW := rWord_any w rb s h
  have hgone : (numS s).2 = none → (numS s).1 = 0 := fun e => by
    have : (takeS 8 s).1 = [] := take_gone e
    show num (takeS 8 s).1 = 0
    rw [this]; rfl
  have hl := numS_lt s
  unfold cntS
  obtain ⟨n, hn⟩ : ∃ n, (numS s).1 = n := ⟨_, rfl⟩
  obtain ⟨s2, hs2⟩ : ∃ x, (numS s).2 = x := ⟨_, rfl⟩
  rw [hn, hs2] at cW hgone ⊢
  rw [hn] at hl
  obtain ⟨m, hm⟩ : ∃ m, (cntB n s2).1 = m := ⟨_, rfl⟩
  obtain ⟨s3, hs3⟩ : ∃ x, (cntB n s2).2 = x := ⟨_, rfl⟩
  rw [hm, hs3]
  have hans := Lib.hid (And.intro hm hs3)
  clear hn hs2 h hm hs3
  go_enter Try.func63, Try.ntmps63
  go_wp2_with fail
  go_at_call 61
  refine cW.mono ?_
  rintro e w1 ⟨rfl, hR, hK⟩
  obtain ⟨A, q, c, sh, fm, hc, hq, hqm⟩ := hR.left
  have hqm' : q ≤ 9223372036854775807 := by unfold maxLen at hqm; omega
  have hwq := wrapU_nat (n := q) (by omega)
  have c0 := Lib.cell_of_heap hc 0
  have hK' := Lib.hid hK
  by_cases hlt : q < n
  · have hd : decide (q < n) = true := decide_eq_true hlt
    have hF : m = 0 ∧ s3 = none := by
      obtain ⟨a1, a2⟩ := hans.out
      rw [← a1, ← a2]
      cases s2 with
      | none => have := hgone rfl; omega
      | some y => obtain ⟨l, f⟩ := y; rw [cntB_no (by rw [← hq]; exact hlt)]; exact ⟨rfl, rfl⟩
    obtain ⟨rfl, rfl⟩ := hF
    have cE := rEnd_any w1 rb A q c sh fm hc
    clear cW hR hK hc hq hlt hgone hans
    go_wp2_with fail
    go_at_call 68
    refine cE.mono ?_
    rintro e w2 ⟨rfl, hR2, hK2⟩
    have hX := Lib.hid (And.intro hR2 (hK'.out.trans hK2))
    clear cE hR2 hK2 c0
    go_wp2
    go_ret
    exact ⟨rfl, hX.out⟩
  · have hd : decide (q < n) = false := decide_eq_false hlt
    have hF : m = n ∧ s3 = s2 := by
      obtain ⟨a1, a2⟩ := hans.out
      rw [← a1, ← a2]
      cases s2 with
      | none => rw [hgone rfl]; exact ⟨rfl, rfl⟩
      | some y => obtain ⟨l, f⟩ := y; rw [cntB_yes (by rw [← hq]; exact hlt)]; exact ⟨rfl, rfl⟩
    obtain ⟨rfl, rfl⟩ := hF
    have hw : IntKind.i64.wrap (m : Int) = (m : Int) := by rw [IntKind.wrap_i64]; omega
    have hX := Lib.hid (And.intro hR hK)
    clear cW hR hK hc hq hlt hgone hans hl hqm hqm'
    go_wp2
    go_ret
    exact ⟨rfl, hX.out⟩
set_option maxHeartbeats 2000000 in
theorem rNeed_any (w : World) (rb : Nat) (s : St) (b : Bool) (h : RdIs w rb s) :
    Calls Try.prog 54 #[rr rb, .bool b] w fun e w' => e = .returned (.tuple #[]) ∧ RdIs w' rb (wrong (!b) s) ∧ Kp [rb] w w' := by
  have hfin : ∀ fm, w.cell? ⟨rb, 2, none⟩ = some (.bool fm) → RdIs (w.setCell ⟨rb, 2, none⟩ (.bool (fm || !b))) rb (wrong (!b) s) := fun fm hc => by
    cases s with
    | none => obtain ⟨f, h⟩ := h; exact ⟨_, set_heap h 2 _⟩
    | some y =>
      obtain ⟨l, f⟩ := y
      obtain ⟨A, db, off, c, e1, e2, e3, hA, e4⟩ := h
      obtain rfl : f = fm := by
        have := Lib.cell_of_heap e1 2
        rw [hc] at this
        simpa using this.symm
      refine ⟨A, db, off, c, set_heap e1 2 _, e2, e3, hA, fun j x hj => ?_⟩
      rcases hA with ⟨_, e, _⟩ | ⟨_, hlt⟩
      · subst e; simp at hj
      · have e : (w.setCell ⟨rb, 2, none⟩ (.bool (f || !b))).cell? ⟨db, off + j, none⟩ = w.cell? ⟨db, off + j, none⟩ := by
          have hd : (w.setCell ⟨rb, 2, none⟩ (.bool (f || !b))).heap[db]? = w.heap[db]? := Below.heap_setCell _ _ _ db (show db ≠ rb by omega)
          simp [World.cell?, hd]
        rw [e]
        exact e4 j x hj
  obtain ⟨A, n, c, sh, fm, hc⟩ := h.cells
  have c2 := Lib.cell_of_heap hc 2
  have f2 : w.frozen? ⟨rb, 2, none⟩ = false := Lib.frozen_of_heap hc 2
  have hF := Lib.hid (And.intro (hfin fm c2) ((Kp.refl [rb] w).setCell (ad := ⟨rb, 2, none⟩) (.inl (by simp)) (.bool (fm || !b))))
  clear hfin hc h
  cases fm <;> cases b <;>
  · go_enter Try.func54, Try.ntmps54
    go_wp2
    go_end0
    exact ⟨rfl, hF.out⟩
set_option maxHeartbeats 4000000 in
theorem rByte_any (w : World) (rb : Nat) (s : St) (h : RdIs w rb s) :
    Calls Try.prog 52 #[rr rb] w fun e w' => e = .returned (.int .u8 ((bytS s).1 : Int)) ∧ RdIs w' rb (bytS s).2 ∧ Kp [rb] w w' := by
  have cT := rTake_any w rb s 1 h
  show Calls Try.prog _ _ w fun e w' => e = .returned (.int .u8 (num (takeS 1 s).1 : Int)) ∧ RdIs w' rb (takeS 1 s).2 ∧ Kp [rb] w w'
  rcases take_len 1 s with hl | ⟨hl, hn⟩
  · obtain ⟨x, hx⟩ : ∃ x, (takeS 1 s).1 = x := ⟨_, rfl⟩
    obtain ⟨s2, hs2⟩ : ∃ x, (takeS 1 s).2 = x := ⟨_, rfl⟩
    rw [hx, hs2] at cT ⊢
    rw [hx] at hl
    obtain ⟨b, rfl⟩ : ∃ b, x = [b] := by
      match x, hl with
      | [b], _ => exact ⟨b, rfl⟩
    have hnb : num [b] = b.toNat := by simp [num]
    rw [hnb]
    clear hx hs2 h hl hnb
    go_enter Try.func52, Try.ntmps52
    go_wp2_with fail
    go_at_call 62
    refine cT.mono ?_
    rintro e w1 ⟨v, rfl, hb, hR, hK, -⟩
    obtain ⟨A, db, off, c, rfl, k1, k2, k3, k4⟩ := bts_one hb
    obtain ⟨rfl, hdb⟩ := k3 (by simp)
    have hc := k4 0 b rfl
    rw [Nat.add_zero] at hc
    have hX := Lib.hid (And.intro hR hK)
    clear cT hb hR hK k3 k4
    have heq : (binOp .eql 22 (.slice (some ⟨db, off, none⟩) 1 c) (.slice none 0 0)).run Try.prog w1 = .ok (.bool false) w1 := by kernel_rfl
    go_wp2
    go_ret
    exact ⟨rfl, hX.out⟩
  · rw [hl, hn] at cT
    rw [hl, hn]
    clear h hl hn
    go_enter Try.func52, Try.ntmps52
    go_wp2_with fail
    go_at_call 62
    refine cT.mono ?_
    rintro e w1 ⟨v, rfl, hb, hR, hK, hv⟩
    obtain rfl := hv trivial
    have hX := Lib.hid (And.intro hR hK)
    clear cT hb hR hK hv
    have heq : (binOp .eql 22 (.slice none 0 0) (.slice none 0 0)).run Try.prog w1 = .ok (.bool true) w1 := by kernel_rfl
    go_wp2
    go_ret
    exact ⟨rfl, hX.out⟩
end Go.Proofs.Ytpngbfmbjldieaa.Ly
