/-
  THE WALK OF calepinref15.Zero.
-/
import Derived.Test.YtpngbfmbjldieaaCodRow
set_option linter.unusedVariables false
namespace Go.Proofs.Ytpngbfmbjldieaa.Cd
open Go.Lib Go.RowKit
open Bo (Kp Row ownsRow_heap sv sv_data)
open Ly (BOwn Wr word text flag num word_len num_word num_snoc num_lt info_parts)

theorem com0_is (c : Com) : decide (c = com0) = ((c.op == 0) && ((((((c.book.length + c.name.length) + c.data.length) + c.mat.length) + c.non.length) + c.tok.length) + c.names.length == 0) && (c.pos == 0) && (c.ses == 0) && (c.seq == 0)) := by
  rw [Bool.eq_iff_iff, decide_eq_true_iff]
  simp only [Bool.and_eq_true, beq_iff_eq]
  constructor
  · rintro rfl
    exact ⟨⟨⟨⟨rfl, rfl⟩, rfl⟩, rfl⟩, rfl⟩
  · rintro ⟨⟨⟨⟨h1, h2⟩, h3⟩, h4⟩, h5⟩
    obtain ⟨op, book, name, data, mat, non, tok, names, pos, ses, seq⟩ := c
    simp only at h1 h2 h3 h4 h5
    obtain rfl : book = [] := List.eq_nil_of_length_eq_zero (by omega)
    obtain rfl : name = [] := List.eq_nil_of_length_eq_zero (by omega)
    obtain rfl : data = [] := List.eq_nil_of_length_eq_zero (by omega)
    obtain rfl : mat = [] := List.eq_nil_of_length_eq_zero (by omega)
    obtain rfl : non = [] := List.eq_nil_of_length_eq_zero (by omega)
    obtain rfl : tok = [] := List.eq_nil_of_length_eq_zero (by omega)
    obtain rfl : names = [] := List.eq_nil_of_length_eq_zero (by omega)
    subst h1 h3 h4 h5
    rfl
set_option maxHeartbeats 8000000 in
set_option maxRecDepth 100000 in
theorem refZeroB_any (w : World) (op pos ses seq : Int) (b1 b2 b3 b4 b5 b6 : ByteArray) (A : Option Addr) (n cp : Nat) (hs : b1.size + b2.size + b3.size + b4.size + b5.size + b6.size + n ≤ 140737488355328) :
    Calls Try.prog 17 #[.agg #[.int .i64 op, .string b1, .string b2, .string b3, .string b4, .string b5, .string b6, .slice A n cp, .int .i64 pos, .int .i64 ses, .int .i64 seq]] w fun e w' => e = .returned (.bool ((op == 0) && (b1.size + b2.size + b3.size + b4.size + b5.size + b6.size + n == 0) && (pos == 0) && (ses == 0) && (seq == 0))) ∧ Below w.heap.size w w' := by
  have hb : Below w.heap.size w (w.alloc (.cells #[.int .i64 op, .string b1, .string b2, .string b3, .string b4, .string b5, .string b6, .slice A n cp, .int .i64 pos, .int .i64 ses, .int .i64 seq] 27)) := (Below.refl _ _).alloc (Nat.le_refl _) _
  have hb' := Lib.hid hb
  have p1 : IntKind.i64.wrap ((b1.size : Int) + (b2.size : Int)) = (b1.size : Int) + (b2.size : Int) := by rw [IntKind.wrap_i64]; omega
  have p2 : IntKind.i64.wrap ((b1.size : Int) + (b2.size : Int) + (b3.size : Int)) = (b1.size : Int) + (b2.size : Int) + (b3.size : Int) := by rw [IntKind.wrap_i64]; omega
  have p3 : IntKind.i64.wrap ((b1.size : Int) + (b2.size : Int) + (b3.size : Int) + (b4.size : Int)) = (b1.size : Int) + (b2.size : Int) + (b3.size : Int) + (b4.size : Int) := by rw [IntKind.wrap_i64]; omega
  have p4 : IntKind.i64.wrap ((b1.size : Int) + (b2.size : Int) + (b3.size : Int) + (b4.size : Int) + (b5.size : Int)) = (b1.size : Int) + (b2.size : Int) + (b3.size : Int) + (b4.size : Int) + (b5.size : Int) := by rw [IntKind.wrap_i64]; omega
  have p5 : IntKind.i64.wrap ((b1.size : Int) + (b2.size : Int) + (b3.size : Int) + (b4.size : Int) + (b5.size : Int) + (b6.size : Int)) = (b1.size : Int) + (b2.size : Int) + (b3.size : Int) + (b4.size : Int) + (b5.size : Int) + (b6.size : Int) := by rw [IntKind.wrap_i64]; omega
  have p6 : IntKind.i64.wrap ((b1.size : Int) + (b2.size : Int) + (b3.size : Int) + (b4.size : Int) + (b5.size : Int) + (b6.size : Int) + (n : Int)) = (b1.size : Int) + (b2.size : Int) + (b3.size : Int) + (b4.size : Int) + (b5.size : Int) + (b6.size : Int) + (n : Int) := by rw [IntKind.wrap_i64]; omega
  obtain ⟨x1, e1⟩ : ∃ x, (op == 0) = x := ⟨_, rfl⟩
  obtain ⟨x2, e2⟩ : ∃ x, (b1.size + b2.size + b3.size + b4.size + b5.size + b6.size + n == 0) = x := ⟨_, rfl⟩
  obtain ⟨x3, e3⟩ : ∃ x, (pos == 0) = x := ⟨_, rfl⟩
  obtain ⟨x4, e4⟩ : ∃ x, (ses == 0) = x := ⟨_, rfl⟩
  obtain ⟨x5, e5⟩ : ∃ x, (seq == 0) = x := ⟨_, rfl⟩
  have e2i : ((b1.size : Int) + (b2.size : Int) + (b3.size : Int) + (b4.size : Int) + (b5.size : Int) + (b6.size : Int) + (n : Int) == 0) = x2 := by
    rw [← e2, Bool.eq_iff_iff, beq_iff_eq, beq_iff_eq]
    omega
  rw [e1, e2, e3, e4, e5]
  clear e2 hb hs
  cases x1
  · go_enter Try.func17, Try.ntmps17
    go_wp2
    go_ret
    exact ⟨rfl, hb'.out⟩
  cases x2
  · go_enter Try.func17, Try.ntmps17
    go_wp2
    go_ret
    exact ⟨rfl, hb'.out⟩
  cases x3
  · go_enter Try.func17, Try.ntmps17
    go_wp2
    go_ret
    exact ⟨rfl, hb'.out⟩
  cases x4
  · go_enter Try.func17, Try.ntmps17
    go_wp2
    go_ret
    exact ⟨rfl, hb'.out⟩
  cases x5
  · go_enter Try.func17, Try.ntmps17
    go_wp2
    go_ret
    exact ⟨rfl, hb'.out⟩
  · go_enter Try.func17, Try.ntmps17
    go_wp2
    go_ret
    exact ⟨rfl, hb'.out⟩
theorem size_of (l : Row) : (⟨l.toArray⟩ : ByteArray).size = l.length := by show l.toArray.size = _; exact List.size_toArray
theorem refZero_any (w : World) (c : Com) (nv : Value) (hn : StrsAt w nv c.names) (hL : c.book.length + c.name.length + c.data.length + c.mat.length + c.non.length + c.tok.length + c.names.length ≤ 140737488355328) :
    Calls Try.prog 17 #[comV c nv] w fun e w' => e = .returned (.bool (decide (c = com0))) ∧ Below w.heap.size w w' := by
  obtain ⟨A, nb, off, cp, rfl, _⟩ := rows_one (f := sv) (fun _ => rfl) hn
  have h := refZeroB_any w c.op c.pos c.ses c.seq ⟨c.book.toArray⟩ ⟨c.name.toArray⟩ ⟨c.data.toArray⟩ ⟨c.mat.toArray⟩ ⟨c.non.toArray⟩ ⟨c.tok.toArray⟩ A c.names.length cp (by simp only [size_of]; exact hL)
  simp only [size_of] at h
  rw [com0_is]
  exact h
end Go.Proofs.Ytpngbfmbjldieaa.Cd
