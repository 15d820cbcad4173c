/-
  WHAT THE LAWS OF LAYER codec SHARE: a row of bytes that is copied or cut, what cut bytes and bytes with more behind are read as.
-/
import Derived.Test.YtpngbfmbjldieaaCodFirst
set_option linter.unusedVariables false
namespace Go.Proofs.Ytpngbfmbjldieaa.Ly
open Go.Lib Go.RowKit
open Bo (Kp Row ownsRow_heap sv sv_data)
open Cd (St endS encS encI encE En Rep repS repV rep0 repB okRep cod_rep Com comS comV comC com0 comB okCom cod_com Lg lg0 logS logV logB okLg log_back log_cut RowsAt StrsAt IntsAt EntsAt wrd wrd_len rows flatN step_row)

theorem append_rowL {w0 : World} {ops : Array Oper} {rest : List Oper} {o : Oper} {a : Act} {Q : Exit → Act → World → Prop} (hgd : o.guard = none) (s xo : Operand)
    (ho : o.op = .call { callee := .builtin .append, args := #[s, xo], argTypes := #[22, 22] }) (base : Nat) (v : Value) (l : Row) (bu : Nat) (u : Value) (x : Row) (hs : a.eval s = v) (hx : a.eval xo = u) (hu : BOwn bu u x w0) (hx0 : 0 < x.length)
    (hown : BOwn base v l w0) (hl : l.length + x.length ≤ 140737488355328) (hbase : base ≤ w0.heap.size) (n : Nat) (hn : l.length + x.length = n) (r : Row) (hr : l ++ x = r)
    (h : ∀ g cap w', Wr base w0 w' v (.slice (some ⟨g, 0, none⟩) n cap) r → wpList Try.prog ops Q rest (a.put o.dst (.slice (some ⟨g, 0, none⟩) n cap)) w') :
    wpList Try.prog ops Q (o :: rest) a w0 := by
  subst hn hr
  refine wpList_plain hgd fun K hK => ?_
  have hw : Region.wanted o (yielded ops a.tmps) = true := by simp [Region.wanted, hgd]
  have := step_row (W := w0) (ops := ops) (o := o) (a := a) (K := K) (Q := Q) (E := True) hgd s xo ho base v l bu u x hs hx hu hx0 hown hl hbase fun g cap w' hw => hK _ _ (h g cap w' hw)
  rw [if_pos hw] at this
  exact this
/-- '[]byte{}' -/
theorem own_empty (w : World) : BOwn w.heap.size (.slice (some ⟨w.heap.size, 0, none⟩) 0 0) [] (w.alloc (.cells #[] 5)) :=
  ⟨rfl, .inr ⟨w.heap.size, 0, #[], rfl, Nat.le_refl _, heap_alloc_new w _, Nat.le_refl _, Nat.zero_le _, rfl, rfl⟩⟩
theorem own_some {w : World} {B : Nat} {v : Value} {l : Row} (h : BOwn B v l w) (hl : 0 < l.length) : ∃ g cap, v = .slice (some ⟨g, 0, none⟩) l.length cap ∧ l.length ≤ cap ∧ g < w.heap.size := by
  rcases h.2 with ⟨_, hn⟩ | ⟨g, cap, cur, e1, e2, e3, e4, _⟩
  · omega
  · exact ⟨g, cap, e1, e4, (Array.getElem?_eq_some_iff.1 e3).1⟩
/-- the first bytes of a row -/
theorem bin_cut {w : World} {B g cap k n : Nat} {l : Row} (h : BOwn B (.slice (some ⟨g, 0, none⟩) n cap) l w) (hn : n = l.length) (hk : k ≤ l.length) : BIn w (.slice (some ⟨g, 0, none⟩) k cap) (l.take k) := by
  subst hn
  obtain ⟨A, b, off, c, h1, h2, h3, h4, h5⟩ := h.bin
  injection h1 with h1 _ h6
  subst h6
  have hkl : (l.take k).length = k := by rw [List.length_take]; omega
  rcases h4 with ⟨e, _⟩ | ⟨e, hlt⟩
  · rw [e] at h1; cases h1
  · rw [e] at h1
    injection h1 with h1
    injection h1 with h6 h7
    subst h6
    subst h7
    exact ⟨_, g, 0, cap, by rw [hkl], by omega, h3, .inr ⟨rfl, hlt⟩, fun j x hj => h5 j x (by
      rw [List.getElem?_take] at hj
      by_cases hjk : j < k
      · rw [if_pos hjk] at hj; exact hj
      · rw [if_neg hjk] at hj; cases hj)⟩
theorem got_cut {c : Com} (h : okCom c) {p t : Row} (he : p ++ t = comB c) (ht : t ≠ []) : got comS com0 p = (com0, 150) := by
  unfold got
  rw [cod_com.cut h he ht]
  rfl
theorem got_more {c : Com} (h : okCom c) (x : UInt8) : got comS com0 (comB c ++ [x]) = (com0, 151) := by
  unfold got
  rw [cod_com.back h [x] false]
  rfl
theorem got_logcut {c : Com} (h : okCom c) {p t : Row} (he : p ++ t = comB c) (ht : t ≠ []) : got logS lg0 (wrd 0 ++ (1 :: p)) = (lg0, 150) := by
  unfold got
  rw [log_cut (by unfold Cd.is64; omega) h he ht]
  rfl
/-- an entry of a command -/
def lgOf (c : Com) : Lg := ⟨0, 1, c, []⟩
theorem lgOf_b (c : Com) : logB (lgOf c) = some (wrd 0 ++ ([1] ++ comB c)) := by
  unfold logB lgOf
  simp
theorem lgOf_ok {c : Com} (h : okCom c) : okLg (lgOf c) := ⟨by show Cd.is64 0; unfold Cd.is64; omega, h, by show Cd.isC 0; unfold Cd.isC; omega, fun x hx => by cases hx⟩
/-- which byte a remainder is -/
theorem rem_of (z : Int) (n : Nat) (h0 : 0 < n) (hn : n ≤ 1099511627776) : ∃ k : Nat, k < n ∧ wrap64 ((IntKind.u64.wrap z).tmod (n : Int)) = (k : Int) := by
  have hz : 0 ≤ IntKind.u64.wrap z := by
    unfold IntKind.wrap
    simp only [IntKind.bits, IntKind.signed, Bool.false_and, Bool.false_eq_true, if_false]
    omega
  have h1 : 0 ≤ (IntKind.u64.wrap z).tmod (n : Int) := Int.tmod_nonneg _ hz
  have h2 : (IntKind.u64.wrap z).tmod (n : Int) < n := Int.tmod_lt_of_pos _ (by omega)
  generalize (IntKind.u64.wrap z).tmod (n : Int) = m at h1 h2
  refine ⟨m.toNat, by omega, ?_⟩
  unfold wrap64
  omega
end Go.Proofs.Ytpngbfmbjldieaa.Ly
