/-
  PLAIN: a command turned in any one field: another one, and right; a row of texts that is copied, or that gets one more.
-/
import Derived.Test.YtpngbfmbjldieaaCodLaw
import Derived.Laws.BitsAllLaws
import Derived.Laws.Closers25b
set_option linter.unusedVariables false
namespace Go.Proofs.Ytpngbfmbjldieaa.Ly
open Go.Lib Go.RowKit
open Bo (Kp Row ownsRow_heap sv sv_data)
open Cd (Com comS comV comC com0 comB okCom cod_com comB_len flatN RowsAt StrsAt encS WrR infoStr isT isC is64)

theorem sv_app (t s : ByteArray) (l : Row) (h : sv l = .string t) : (.string (t ++ s) : Value) = sv (l ++ s.data.toList) := by
  have e : t = ⟨l.toArray⟩ := by
    unfold sv at h
    injection h with h
    exact h.symm
  subst e
  unfold sv
  congr 1
theorem xor_one_ne (z : Int) (h : is64 z) : bits .xor .i64 z 1 ≠ z ∧ is64 (bits .xor .i64 z 1) := by
  refine ⟨fun e => ?_, ?_⟩
  · have e1 : IntKind.i64.wrap ((BitVec.ofInt 64 z ^^^ BitVec.ofInt 64 1).toNat : Int) = z := e
    have e2 := congrArg (BitVec.ofInt 64) e1
    have e3 : BitVec.ofInt 64 (IntKind.i64.wrap ((BitVec.ofInt 64 z ^^^ BitVec.ofInt 64 1).toNat : Int)) = BitVec.ofInt 64 z ^^^ BitVec.ofInt 64 1 := by
      apply BitVec.eq_of_toInt_eq
      rw [IntKind.wrap_i64, BitVec.toInt_ofInt]
      have h1 := (BitVec.ofInt 64 z ^^^ BitVec.ofInt 64 1).isLt
      rw [BitVec.toInt_eq_toNat_bmod]
      generalize (BitVec.ofInt 64 z ^^^ BitVec.ofInt 64 1).toNat = n at h1 ⊢
      simp [Int.bmod]
    rw [e3] at e2
    have e4 := congrArg (fun b : BitVec 64 => b.getLsbD 0) e2
    simp at e4
  · have := bits_within .xor .i64 z 1
    simp [IntKind.min, IntKind.max, IntKind.signed, IntKind.bits] at this
    unfold is64
    omega
/-- texts that are copied from wherever they read -/
theorem append_strsL {w0 : World} {ops : Array Oper} {rest : List Oper} {o : Oper} {a : Act} {Q : Exit → Act → World → Prop} (hgd : o.guard = none) (s xo : Operand)
    (ho : o.op = .call { callee := .builtin .append, args := #[s, xo], argTypes := #[25, 25] }) (base : Nat) (v : Value) (l : List Row) (u : Value) (x : List Row) (hs : a.eval s = v) (hx : a.eval xo = u) (hu : StrsAt w0 u x) (hx0 : 0 < x.length)
    (hown : w0.ownsRow base 9 1 v l.length (l.flatMap encS)) (hl : l.length + x.length ≤ 1099511627776) (hbase : base ≤ w0.heap.size) (n : Nat) (hn : l.length + x.length = n) (r : List Row) (hr : l ++ x = r)
    (h : ∀ g cap w', WrR 9 1 encS base w0 w' v (.slice (some ⟨g, 0, none⟩) n cap) r → wpList Try.prog ops Q rest (a.put o.dst (.slice (some ⟨g, 0, none⟩) n cap)) w') :
    wpList Try.prog ops Q (o :: rest) a w0 := by
  subst hn hr
  obtain ⟨i0, hi, hz0, hz1, hz2⟩ := info_parts infoStr
  obtain ⟨A, b, off, c, rfl, k1, k2, k3, k4⟩ := Cd.rows_one (f := sv) (fun _ => rfl) hu
  obtain ⟨rfl, hlt⟩ := k3 hx0
  have hfl : ∀ y : List Row, y.flatMap encS = y.map sv := fun y => by
    induction y with
    | nil => rfl
    | cons q r ih => rw [List.flatMap_cons, ih]; rfl
  refine wpList_append_lies _ hgd s xo 25 ho base 9 i0 (.string ⟨#[]⟩) 1 16 Try.underlying25 hi hz0 hz1 hz2 rfl (by decide) v l.length (l.flatMap encS) hs hown ⟨b, off, none⟩ x.length c (x.flatMap encS) hx (by rw [hfl]; simp) (fun j y hj => ?_) (fun y hy => ?_) hx0 (by unfold maxLen; omega) (by omega) hbase _ rfl (fun g cap w' h5 h6 h7 h8 => h g cap w' ?_)
  · have hp : (⟨b, off, none⟩ : Addr).add j = ⟨b, off + j, none⟩ := by unfold Addr.add; split <;> simp_all
    rw [hfl, List.getElem?_map] at hj
    obtain ⟨z, hz, rfl⟩ := Option.map_eq_some_iff.1 hj
    rw [hp]
    exact k4 j z hz
  · rw [hfl] at hy
    simp at hy
    obtain ⟨_, _, rfl⟩ := hy
    rfl
  · refine ⟨?_, (Kp.refl _ _).grown h6 fun k hk => .inl (by simp [hk])⟩
    rw [List.length_append, List.flatMap_append]
    exact h5
/-- nothing is appended -/
theorem append_strs0 {w0 : World} {ops : Array Oper} {rest : List Oper} {o : Oper} {a : Act} {Q : Exit → Act → World → Prop} (hgd : o.guard = none) (s xo : Operand)
    (ho : o.op = .call { callee := .builtin .append, args := #[s, xo], argTypes := #[25, 25] }) (base : Nat) (v : Value) (n : Nat) (xs : List Value) (A : Option Addr) (c : Nat) (hs : a.eval s = v) (hx : a.eval xo = .slice A 0 c)
    (hown : w0.ownsRow base 9 1 v n xs) (h : wpList Try.prog ops Q rest (a.put o.dst v) w0) : wpList Try.prog ops Q (o :: rest) a w0 := by
  refine wpList_plain hgd fun K hK => ?_
  obtain ⟨i0, hi, hz0, hz1, hz2⟩ := info_parts infoStr
  have hrun : (Builtin.append_ #[25, 25] o.type #[v, .slice A 0 c]).run Try.prog w0 = .ok v w0 := by
    rcases hown.2 with ⟨rfl, h0⟩ | ⟨g, cap, cur, rfl, _, _, hnc, _⟩
    · cases A <;> simp [Builtin.append_, run_underlying Try.underlying25, sizeOf, typeInfo, hi, Builtin.lenOf, Builtin.firstCells, loadCells, loadCellsFrom, Result.andThen]
    · cases A <;> simp [Builtin.append_, run_underlying Try.underlying25, sizeOf, typeInfo, hi, Builtin.lenOf, Builtin.firstCells, hnc, storeCells, loadCells, loadCellsFrom, Result.andThen]
  unfold Oper.wp
  simp [execOp, ho, resolve, invoke, builtin, hs, hx, hrun, Result.andThen]
  exact hK _ _ h
end Go.Proofs.Ytpngbfmbjldieaa.Ly
