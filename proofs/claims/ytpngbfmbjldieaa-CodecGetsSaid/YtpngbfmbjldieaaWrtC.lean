/-
  A WRITER IN MEMORY: the walks of Numbers, Texts, List of numbers, List of texts. (Written by tools/genwrtc.py.)
-/
import Derived.Test.YtpngbfmbjldieaaWrtB
set_option linter.unusedVariables false
namespace Go.Proofs.Ytpngbfmbjldieaa.Ly
open Go.Lib Go.RowKit
open Bo (Kp Row ownsRow_heap sv sv_data)
open Cd (wrd wrd_len RowsAt text_len IntsAt StrsAt upK upK_zero upK_succ upK_all upK_le flatN rows rows_one encS encI wrd_nat len_flat wrd_pos text_pos)
theorem wrd_len8 (z : Int) : (wrd z).length = 8 := wrd_len z

set_option maxHeartbeats 8000000 in
set_option maxRecDepth 100000 in
theorem numbersW_any (w : World) (B wb : Nat) (v : Value) (l : Row) (av : Value) (xs : List Int) (ha : IntsAt w av xs) (hap : 0 < xs.length → Apart wb v av) (h : WAt B wb v l w) (hl : l.length + flatN wrd xs ≤ 70368744177664) (hB : B ≤ w.heap.size) :
    Calls Try.prog 58 #[rp wb, av] w fun e w' => e = .returned (.tuple #[]) ∧ ∃ v', Wn B wb w w' v v' (l ++ (xs.map wrd).flatten) := by
  have h0 := Lib.hid (Wn.refl h)
  have hln := len_flat wrd_pos xs
  have hwn := fun w' v' l' (hW : Wn B wb w w' v v' l') => RowsAt.wn ha hW hap
  obtain ⟨A, nb, off, cp, rfl, n1, n2, n3, n4⟩ := ha
  have hN := Lib.hid hwn
  have h3 := Lib.hid n3
  clear n3 n4 hwn h
  go_enter Try.func58, Try.ntmps58
  go_wp2
  go_loopw [8] (fun s8 wr => ∃ k : Nat, s8 = .int .i64 (k : Int) ∧ k ≤ xs.length ∧ Hid (∃ v1, Wn B wb w wr v v1 (l ++ upK wrd xs k))) (fun s8 wr => xs.length - (RowKit.intOf s8).toNat)
  case atStart => exact ⟨0, by rfl, Nat.zero_le _, Lib.hid ⟨v, by rw [upK_zero, List.append_nil]; exact h0.out⟩⟩
  case round =>
    obtain ⟨k, rfl, hk, hW⟩ := hrel
    obtain ⟨v1, hW1⟩ := hW.out
    clear hW
    obtain ⟨x, hx⟩ : ∃ x, l ++ upK wrd xs k = x := ⟨_, rfl⟩
    rw [hx] at hW1
    have hx' := Lib.hid hx
    by_cases hlt : k < xs.length
    · obtain ⟨t, ht⟩ : ∃ t, xs[k]? = some t := ⟨_, List.getElem?_eq_getElem hlt⟩
      obtain ⟨rfl, hnb⟩ := h3.out (by omega)
      have hcc : wr.cell? ⟨nb, off + k, none⟩ = some (.int .i64 t) := by
        obtain ⟨A2, b2, off2, c2, e1, _, _, e4, e5⟩ := hN.out wr v1 x hW1
        obtain ⟨e4, _⟩ := e4 (by omega)
        injection e1 with e1 _ _
        rw [e4] at e1
        injection e1 with e1
        injection e1 with e1 e2
        have := e5 k t ht 0 (.int .i64 t) rfl
        rw [Nat.mul_one, Nat.add_zero] at this
        rw [e1, e2]
        exact this
      have hup := upK_succ wrd ht
      have htl : x.length + 8 ≤ l.length + flatN wrd xs := by
        have := upK_le wrd xs (k + 1)
        rw [hup, List.length_append, wrd_len] at this
        have e : x.length = l.length + (upK wrd xs k).length := by rw [← hx, List.length_append]
        omega
      have hup' := Lib.hid hup
      have cT := numberW_any wr B wb v1 x t hW1.at_ (by omega) (Nat.le_trans hB hW1.size)
      have hW2 := Lib.hid hW1
      clear hx hup hW1 ht htl
      go_wp2_with fail
      go_at_call 43
      refine cT.mono ?_
      rintro e w10 ⟨rfl, v10, h10⟩
      have hW3 := Lib.hid (hW2.out.then h10)
      clear h10 hcc cT
      go_wp2
      go_roundw
      case rel => exact ⟨k + 1, by go_num, by omega, Lib.hid ⟨v10, by rw [hup'.out, ← List.append_assoc, hx'.out]; exact hW3.out⟩⟩
      case measure => simp [RowKit.intOf]; omega
    · obtain rfl : k = xs.length := by omega
      rw [← hx, upK_all wrd (Nat.le_refl _)] at hW1
      have hW2 := Lib.hid hW1
      clear hx hW1
      go_wp2
      go_end0
      exact ⟨rfl, _, hW2.out⟩

set_option maxHeartbeats 8000000 in
set_option maxRecDepth 100000 in
theorem textsW_any (w : World) (B wb : Nat) (v : Value) (l : Row) (av : Value) (xs : List Row) (ha : StrsAt w av xs) (hap : 0 < xs.length → Apart wb v av) (h : WAt B wb v l w) (hl : l.length + flatN text xs ≤ 70368744177664) (hB : B ≤ w.heap.size) :
    Calls Try.prog 55 #[rp wb, av] w fun e w' => e = .returned (.tuple #[]) ∧ ∃ v', Wn B wb w w' v v' (l ++ (xs.map text).flatten) := by
  have h0 := Lib.hid (Wn.refl h)
  have hln := len_flat text_pos xs
  have hwn := fun w' v' l' (hW : Wn B wb w w' v v' l') => RowsAt.wn ha hW hap
  obtain ⟨A, nb, off, cp, rfl, n1, n2, n3, n4⟩ := ha
  have hN := Lib.hid hwn
  have h3 := Lib.hid n3
  clear n3 n4 hwn h
  go_enter Try.func55, Try.ntmps55
  go_wp2
  go_loopw [8] (fun s8 wr => ∃ k : Nat, s8 = .int .i64 (k : Int) ∧ k ≤ xs.length ∧ Hid (∃ v1, Wn B wb w wr v v1 (l ++ upK text xs k))) (fun s8 wr => xs.length - (RowKit.intOf s8).toNat)
  case atStart => exact ⟨0, by rfl, Nat.zero_le _, Lib.hid ⟨v, by rw [upK_zero, List.append_nil]; exact h0.out⟩⟩
  case round =>
    obtain ⟨k, rfl, hk, hW⟩ := hrel
    obtain ⟨v1, hW1⟩ := hW.out
    clear hW
    obtain ⟨x, hx⟩ : ∃ x, l ++ upK text xs k = x := ⟨_, rfl⟩
    rw [hx] at hW1
    have hx' := Lib.hid hx
    by_cases hlt : k < xs.length
    · obtain ⟨t, ht⟩ : ∃ t, xs[k]? = some t := ⟨_, List.getElem?_eq_getElem hlt⟩
      obtain ⟨rfl, hnb⟩ := h3.out (by omega)
      have hcc : wr.cell? ⟨nb, off + k, none⟩ = some (sv t) := by
        obtain ⟨A2, b2, off2, c2, e1, _, _, e4, e5⟩ := hN.out wr v1 x hW1
        obtain ⟨e4, _⟩ := e4 (by omega)
        injection e1 with e1 _ _
        rw [e4] at e1
        injection e1 with e1
        injection e1 with e1 e2
        have := e5 k t ht 0 (sv t) rfl
        rw [Nat.mul_one, Nat.add_zero] at this
        rw [e1, e2]
        exact this
      have hup := upK_succ text ht
      have htl : x.length + (8 + t.length) ≤ l.length + flatN text xs := by
        have := upK_le text xs (k + 1)
        rw [hup, List.length_append, text_len] at this
        have e : x.length = l.length + (upK text xs k).length := by rw [← hx, List.length_append]
        omega
      have hup' := Lib.hid hup
      have cT := textW_any wr B wb v1 x t hW1.at_ (by omega) (Nat.le_trans hB hW1.size)
      have hW2 := Lib.hid hW1
      clear hx hup hW1 ht htl
      go_wp2_with fail
      go_at_call 57
      refine cT.mono ?_
      rintro e w10 ⟨rfl, v10, h10⟩
      have hW3 := Lib.hid (hW2.out.then h10)
      clear h10 hcc cT
      go_wp2
      go_roundw
      case rel => exact ⟨k + 1, by go_num, by omega, Lib.hid ⟨v10, by rw [hup'.out, ← List.append_assoc, hx'.out]; exact hW3.out⟩⟩
      case measure => simp [RowKit.intOf]; omega
    · obtain rfl : k = xs.length := by omega
      rw [← hx, upK_all text (Nat.le_refl _)] at hW1
      have hW2 := Lib.hid hW1
      clear hx hW1
      go_wp2
      go_end0
      exact ⟨rfl, _, hW2.out⟩

set_option maxHeartbeats 8000000 in
set_option maxRecDepth 100000 in
theorem listIntW_any (w : World) (B wb : Nat) (v : Value) (l : Row) (av : Value) (xs : List Int) (ha : IntsAt w av xs) (hap : 0 < xs.length → Apart wb v av) (h : WAt B wb v l w) (hl : l.length + (8 + flatN wrd xs) ≤ 70368744177664) (hB : B ≤ w.heap.size) :
    Calls Try.prog 45 #[rp wb, av, .func (.func 43) #[rp wb] #[]] w fun e w' => e = .returned (.tuple #[]) ∧ ∃ v', Wn B wb w w' v v' (l ++ rows wrd xs) := by
  have hln := len_flat wrd_pos xs
  have hwn := fun w' v' l' (hW : Wn B wb w w' v v' l') => RowsAt.wn ha hW hap
  obtain ⟨A, nb, off, cp, rfl, n1, n2, n3, n4⟩ := ha
  have hN := Lib.hid hwn
  have h3 := Lib.hid n3
  have cN := numberW_any w B wb v l (xs.length : Int) h (by omega) hB
  rw [wrd_nat (by omega)] at cN
  clear n3 n4 hwn h
  go_enter Try.func45, Try.ntmps45
  go_wp2_with fail
  go_at_call 43
  refine cN.mono ?_
  rintro e w1 ⟨rfl, v0, h1⟩
  obtain ⟨l1, q1⟩ : ∃ y, l ++ word xs.length = y := ⟨_, rfl⟩
  rw [q1] at h1
  have m1 : l1.length ≤ l.length + 8 := by rw [← q1, List.length_append, word_len]; exact Nat.le_refl _
  have Q1 := Lib.hid q1
  have h0 := Lib.hid h1
  clear q1 h1 cN
  go_wp2
  go_loopw [14] (fun s14 wr => ∃ k : Nat, s14 = .int .i64 (k : Int) ∧ k ≤ xs.length ∧ Hid (∃ v1, Wn B wb w wr v v1 (l1 ++ upK wrd xs k))) (fun s14 wr => xs.length - (RowKit.intOf s14).toNat)
  case atStart => exact ⟨0, by rfl, Nat.zero_le _, Lib.hid ⟨_, by rw [upK_zero, List.append_nil]; exact h0.out⟩⟩
  case round =>
    obtain ⟨k, rfl, hk, hW⟩ := hrel
    obtain ⟨v1, hW1⟩ := hW.out
    clear hW
    obtain ⟨x, hx⟩ : ∃ x, l1 ++ upK wrd xs k = x := ⟨_, rfl⟩
    rw [hx] at hW1
    have hx' := Lib.hid hx
    by_cases hlt : k < xs.length
    · obtain ⟨t, ht⟩ : ∃ t, xs[k]? = some t := ⟨_, List.getElem?_eq_getElem hlt⟩
      obtain ⟨rfl, hnb⟩ := h3.out (by omega)
      have hcc : wr.cell? ⟨nb, off + k, none⟩ = some (.int .i64 t) := by
        obtain ⟨A2, b2, off2, c2, e1, _, _, e4, e5⟩ := hN.out wr v1 x hW1
        obtain ⟨e4, _⟩ := e4 (by omega)
        injection e1 with e1 _ _
        rw [e4] at e1
        injection e1 with e1
        injection e1 with e1 e2
        have := e5 k t ht 0 (.int .i64 t) rfl
        rw [Nat.mul_one, Nat.add_zero] at this
        rw [e1, e2]
        exact this
      have hup := upK_succ wrd ht
      have htl : x.length + 8 ≤ l1.length + flatN wrd xs := by
        have := upK_le wrd xs (k + 1)
        rw [hup, List.length_append, wrd_len] at this
        have e : x.length = l1.length + (upK wrd xs k).length := by rw [← hx, List.length_append]
        omega
      have hup' := Lib.hid hup
      have cT := numberW_any wr B wb v1 x t hW1.at_ (by omega) (Nat.le_trans hB hW1.size)
      have hW2 := Lib.hid hW1
      clear hx hup hW1 ht htl
      go_wp2_with fail
      go_at_call 43
      refine cT.mono ?_
      rintro e w10 ⟨rfl, v10, h10⟩
      have hW3 := Lib.hid (hW2.out.then h10)
      clear h10 cT
      go_wp2
      go_roundw
      case rel => exact ⟨k + 1, by go_num, by omega, Lib.hid ⟨v10, by rw [hup'.out, ← List.append_assoc, hx'.out]; exact hW3.out⟩⟩
      case measure => simp [RowKit.intOf]; omega
    · obtain rfl : k = xs.length := by omega
      rw [← hx, upK_all wrd (Nat.le_refl _), ← Q1.out, List.append_assoc] at hW1
      have hW2 : Hid (Wn B wb w wr v v1 (l ++ rows wrd xs)) := Lib.hid hW1
      clear hx hW1
      go_wp2
      go_end0
      exact ⟨rfl, _, hW2.out⟩

set_option maxHeartbeats 8000000 in
set_option maxRecDepth 100000 in
theorem listStrW_any (w : World) (B wb : Nat) (v : Value) (l : Row) (av : Value) (xs : List Row) (ha : StrsAt w av xs) (hap : 0 < xs.length → Apart wb v av) (h : WAt B wb v l w) (hl : l.length + (8 + flatN text xs) ≤ 70368744177664) (hB : B ≤ w.heap.size) :
    Calls Try.prog 56 #[rp wb, av, .func (.func 57) #[rp wb] #[]] w fun e w' => e = .returned (.tuple #[]) ∧ ∃ v', Wn B wb w w' v v' (l ++ rows text xs) := by
  have hln := len_flat text_pos xs
  have hwn := fun w' v' l' (hW : Wn B wb w w' v v' l') => RowsAt.wn ha hW hap
  obtain ⟨A, nb, off, cp, rfl, n1, n2, n3, n4⟩ := ha
  have hN := Lib.hid hwn
  have h3 := Lib.hid n3
  have cN := numberW_any w B wb v l (xs.length : Int) h (by omega) hB
  rw [wrd_nat (by omega)] at cN
  clear n3 n4 hwn h
  go_enter Try.func56, Try.ntmps56
  go_wp2_with fail
  go_at_call 43
  refine cN.mono ?_
  rintro e w1 ⟨rfl, v0, h1⟩
  obtain ⟨l1, q1⟩ : ∃ y, l ++ word xs.length = y := ⟨_, rfl⟩
  rw [q1] at h1
  have m1 : l1.length ≤ l.length + 8 := by rw [← q1, List.length_append, word_len]; exact Nat.le_refl _
  have Q1 := Lib.hid q1
  have h0 := Lib.hid h1
  clear q1 h1 cN
  go_wp2
  go_loopw [14] (fun s14 wr => ∃ k : Nat, s14 = .int .i64 (k : Int) ∧ k ≤ xs.length ∧ Hid (∃ v1, Wn B wb w wr v v1 (l1 ++ upK text xs k))) (fun s14 wr => xs.length - (RowKit.intOf s14).toNat)
  case atStart => exact ⟨0, by rfl, Nat.zero_le _, Lib.hid ⟨_, by rw [upK_zero, List.append_nil]; exact h0.out⟩⟩
  case round =>
    obtain ⟨k, rfl, hk, hW⟩ := hrel
    obtain ⟨v1, hW1⟩ := hW.out
    clear hW
    obtain ⟨x, hx⟩ : ∃ x, l1 ++ upK text xs k = x := ⟨_, rfl⟩
    rw [hx] at hW1
    have hx' := Lib.hid hx
    by_cases hlt : k < xs.length
    · obtain ⟨t, ht⟩ : ∃ t, xs[k]? = some t := ⟨_, List.getElem?_eq_getElem hlt⟩
      obtain ⟨rfl, hnb⟩ := h3.out (by omega)
      have hcc : wr.cell? ⟨nb, off + k, none⟩ = some (sv t) := by
        obtain ⟨A2, b2, off2, c2, e1, _, _, e4, e5⟩ := hN.out wr v1 x hW1
        obtain ⟨e4, _⟩ := e4 (by omega)
        injection e1 with e1 _ _
        rw [e4] at e1
        injection e1 with e1
        injection e1 with e1 e2
        have := e5 k t ht 0 (sv t) rfl
        rw [Nat.mul_one, Nat.add_zero] at this
        rw [e1, e2]
        exact this
      have hup := upK_succ text ht
      have htl : x.length + (8 + t.length) ≤ l1.length + flatN text xs := by
        have := upK_le text xs (k + 1)
        rw [hup, List.length_append, text_len] at this
        have e : x.length = l1.length + (upK text xs k).length := by rw [← hx, List.length_append]
        omega
      have hup' := Lib.hid hup
      have cT := textW_any wr B wb v1 x t hW1.at_ (by omega) (Nat.le_trans hB hW1.size)
      have hW2 := Lib.hid hW1
      clear hx hup hW1 ht htl
      go_wp2_with fail
      go_at_call 57
      refine cT.mono ?_
      rintro e w10 ⟨rfl, v10, h10⟩
      have hW3 := Lib.hid (hW2.out.then h10)
      clear h10 cT
      go_wp2
      go_roundw
      case rel => exact ⟨k + 1, by go_num, by omega, Lib.hid ⟨v10, by rw [hup'.out, ← List.append_assoc, hx'.out]; exact hW3.out⟩⟩
      case measure => simp [RowKit.intOf]; omega
    · obtain rfl : k = xs.length := by omega
      rw [← hx, upK_all text (Nat.le_refl _), ← Q1.out, List.append_assoc] at hW1
      have hW2 : Hid (Wn B wb w wr v v1 (l ++ rows text xs)) := Lib.hid hW1
      clear hx hW1
      go_wp2
      go_end0
      exact ⟨rfl, _, hW2.out⟩
end Go.Proofs.Ytpngbfmbjldieaa.Ly
