/-
  CodecGets: which bytes are commands, replies and entries. (Written by tools/gengets.py.)
-/
import Derived.Test.YtpngbfmbjldieaaCodGetsP
import Derived.Test.YtpngbfmbjldieaaCodLawB
import Derived.Test.YtpngbfmbjldieaaCodTapeCom
import Derived.Test.YtpngbfmbjldieaaCodTapeRep
import Derived.Test.YtpngbfmbjldieaaCodTapeLog
import Derived.Test.YtpngbfmbjldieaaCodRefZero
import Derived.Test.YtpngbfmbjldieaaCodRefRep
import Derived.Test.YtpngbfmbjldieaaCodRefCom
import Derived.Test.YtpngbfmbjldieaaCodRefLog
import Derived.Test.YtpngbfmbjldieaaCodLoads
import Derived.Test.YtpngbfmbjldieaaCodGetsB
import Derived.Deep.CutRange
import Derived.Laws.BitsAllLaws
set_option linter.unusedVariables false
namespace Go.Proofs.Ytpngbfmbjldieaa.Ly
open Go.Lib Go.RowKit
open Bo (Kp Row ownsRow_heap sv sv_data)
open Cd (St endS encS encI encE En enB Rep repS repV rep0 repB okRep cod_rep Com comS comV comC com0 comB okCom cod_com Lg lg0 logS logV logB okLg LogR RowsAt StrsAt IntsAt EntsAt TpIs tpCommand_any tpReply_any tpLog_any tpEnd_any tp rows_of flatN)

/-- entries do not lie in a tape -/
theorem ents_besides {w w' : World} {t : Nat} {v : Value} {xs : List En} {A : Option Addr} {m c k : Nat} {sh fm : Bool} (h : EntsAt w v xs) (ht : w.heap[t]? = some (.cells #[.slice A m c, .int .i64 (k : Int), .bool sh, .bool fm] 44 (0, 0))) (hk : Kp [t] w w') : EntsAt w' v xs := by
  obtain ⟨A', b, off, c', h1, h2, h3, h4, h5⟩ := h
  have hne : 0 < xs.length → b ≠ t := fun h0 e => by
    subst e
    have hx : xs[0]? = some (xs[0]'h0) := List.getElem?_eq_getElem h0
    have hc := h5 0 _ hx 0 (sv (xs[0]'h0).name) rfl
    rw [Lib.cell_of_heap ht] at hc
    have hlt := (Array.getElem?_eq_some_iff.1 hc).1
    generalize off + 0 * 4 + 0 = q at hc hlt
    simp at hlt
    have : q = 0 ∨ q = 1 ∨ q = 2 ∨ q = 3 := by omega
    rcases this with rfl | rfl | rfl | rfl <;> simp [sv] at hc
  refine ⟨A', b, off, c', h1, h2, h3, fun h0 => ⟨(h4 h0).1, Nat.lt_of_lt_of_le (h4 h0).2 hk.size⟩, fun j x hj q u hu => ?_⟩
  have h0 : 0 < xs.length := by have := (List.getElem?_eq_some_iff.1 hj).1; omega
  have hb : w'.heap[b]? = w.heap[b]? := hk.block b (h4 h0).2 (by simpa using hne h0)
  have e : w'.cell? ⟨b, off + j * 4 + q, none⟩ = w.cell? ⟨b, off + j * 4 + q, none⟩ := by simp [World.cell?, hb]
  rw [e]
  exact h5 j x hj q u hu
/-- a tape that was just made -/
theorem tp_new {w W : World} {A : Option Addr} {c tb : Nat} {l : Row} (hb : BtsAt w (.slice A l.length c) l) (hW : Below w.heap.size w W) (htb : w.heap.size ≤ tb) (hc : W.heap[tb]? = some (.cells #[.slice A l.length c, .int .i64 ((0 : Nat) : Int), .bool false, .bool false] 44 (0, 0))) : TpIs W (tb + 1) tb l (some (l, false)) := by
  have hlt := (Array.getElem?_eq_some_iff.1 hc).1
  have hbW := hb.kept hW
  obtain ⟨A', b, off, c', h1, k1, k2, k3, -⟩ := bts_one hb
  obtain ⟨A2, b2, off2, c2, h2, -, -, m3, m4⟩ := bts_one hbW
  injection h1 with e1 _ e2
  injection h2 with e3 _ e4
  subst e1 e2 e3 e4
  refine ⟨A, b2, off2, c, 0, false, false, ⟨hc, Nat.zero_le _, fun h0 => ?_, m4, k1, k2, by omega, by omega⟩, rfl⟩
  obtain ⟨e5, h5⟩ := k3 h0
  obtain ⟨e6, h6⟩ := m3 h0
  rw [e5] at e6
  simp only [Option.some.injEq, Addr.mk.injEq, and_true] at e6
  obtain ⟨rfl, rfl⟩ := e6
  exact ⟨e5, by omega, by omega⟩
theorem ownsRow_kept {w w' : World} {B : Nat} {e : TypeId} {size n : Nat} {v : Value} {xs : List Value} (h : w.ownsRow B e size v n xs) (hb : Below w.heap.size w w') : w'.ownsRow B e size v n xs := ownsRow_heap h fun g hg => hb.block g (World.ownsRow.lt h g hg).2
/-- a byte of a row of the call's own is stored -/
theorem own_setG {w : World} {B g n cap : Nat} {l : Row} (h : BOwn B (.slice (some ⟨g, 0, none⟩) n cap) l w) (q : Nat) (y : UInt8) : BOwn B (.slice (some ⟨g, 0, none⟩) n cap) (l.set q y) (w.setCell ⟨g, q, none⟩ (.int .u8 (y.toNat : Int))) ∧ Kp [g] w (w.setCell ⟨g, q, none⟩ (.int .u8 (y.toNat : Int))) := by
  have hn : n = l.length := by
    rcases h.2 with ⟨h1, _⟩ | ⟨g', c', cur, h1, _⟩
    · cases h1
    · injection h1
  subst hn
  have h1 := (World.ownsRow.stored h q (.int .u8 (y.toNat : Int))).1
  refine ⟨?_, (Kp.refl _ _).setCell (.inl (by simp)) _⟩
  unfold BOwn
  rw [List.length_set, show bc (l.set q y) = (bc l).set q (.int .u8 (y.toNat : Int)) by unfold bc; rw [List.map_set]]
  exact h1
theorem own_cellG {w : World} {B g n cap : Nat} {l : Row} (h : BOwn B (.slice (some ⟨g, 0, none⟩) n cap) l w) {q : Nat} {y : UInt8} (hq : l[q]? = some y) : w.cell? ⟨g, q, none⟩ = some (.int .u8 (y.toNat : Int)) ∧ w.frozen? ⟨g, q, none⟩ = false := by
  have hn : n = l.length := by
    rcases h.2 with ⟨h1, _⟩ | ⟨g', c', cur, h1, _⟩
    · cases h1
    · injection h1
  subst hn
  have hlt := (List.getElem?_eq_some_iff.1 hq).1
  refine ⟨?_, World.ownsRow.frozenAt h q⟩
  rw [World.ownsRow.cellAt h q (by omega)]
  unfold bc
  rw [List.getElem?_map, hq]
  rfl
theorem ownsRow_kp {w w' : World} {B t : Nat} {e : TypeId} {size n : Nat} {v : Value} {xs : List Value} (h : w.ownsRow B e size v n xs) (hk : Kp [t] w w') (ht : t < B) : w'.ownsRow B e size v n xs := ownsRow_heap h fun g hg => hk.block g (World.ownsRow.lt h g hg).2 (by have := (World.ownsRow.lt h g hg).1; simp; omega)
theorem cf_zero (v : Value) (W : World) : (callFunc 17 #[v]).run Try.prog W = .ok (.enter 17 #[v]) W := by go_simp
theorem cf_rep (v : Value) (W : World) : (callFunc 18 #[v]).run Try.prog W = .ok (.enter 18 #[v]) W := by go_simp
theorem cf_com (v : Value) (W : World) : (callFunc 19 #[v]).run Try.prog W = .ok (.enter 19 #[v]) W := by go_simp
theorem cf_rc (v : Value) (W : World) : (callFunc 19 #[v]).run Try.prog W = .ok (.enter 19 #[v]) W := by go_simp
theorem repB_len2 (r : Rep) : (repB r).length = 40 + r.data.length + r.tok.length + flatN enB r.ents := by
  unfold repB
  simp only [List.length_append, Cd.wrd_len, Cd.text_len, Cd.rows_len]
  omega
theorem com_bd {c : Com} {l : Row} {n : Nat} (h : comB c = l) (hn : l.length = n) (h5 : n ≤ 50000) : 88 + c.book.length + c.name.length + c.data.length + c.mat.length + c.non.length + c.tok.length + flatN text c.names ≤ 70368744177664 := by
  have := Cd.comB_len c
  rw [h] at this
  omega
theorem rep_bd {r : Rep} {l : Row} {n : Nat} (h : repB r = l) (hn : l.length = n) (h5 : n ≤ 50000) : 88 + r.data.length + r.tok.length + flatN enB r.ents ≤ 70368744177664 := by
  have := repB_len2 r
  rw [h] at this
  omega
theorem log_bd {z : Lg} {l : Row} {n : Nat} (h : (got logS lg0 l).1 = z ∨ (logS (some (l, false))).1 = z) (hn : l.length = n) (h5 : n ≤ 50000) : 88 + z.com.book.length + z.com.name.length + z.com.data.length + z.com.mat.length + z.com.non.length + z.com.tok.length + flatN text z.com.names ≤ 70368744177664 ∧ z.nodes.length ≤ 1099511627776 := by
  have k := log_ln (some (l, false))
  have e : ln (some (l, false)) = l.length := rfl
  have key : (logS (some (l, false))).1 = z ∨ lg0 = z := by
    rcases h with h | h
    · by_cases h0 : (got logS lg0 l).2 = 0
      · rw [got_val h0] at h; exact .inl h
      · rw [got_zero h0] at h; exact .inr h
    · exact .inl h
  rcases key with rfl | rfl
  · omega
  · refine ⟨?_, Nat.zero_le _⟩
    show 88 + 0 + 0 + 0 + 0 + 0 + 0 + 0 ≤ _
    omega
theorem fa_0 (X : Nat) (W : World) : (Instr.fieldAt 39 (.pointer (some ⟨X, 0, none⟩)) 0).run Try.prog W = .ok (.pointer (some ⟨X, 0, none⟩)) W := by go_simp
theorem fa_1 (X : Nat) (W : World) : (Instr.fieldAt 39 (.pointer (some ⟨X, 0, none⟩)) 1).run Try.prog W = .ok (.pointer (some ⟨X, 1, none⟩)) W := by go_simp
theorem fa_2 (X : Nat) (W : World) : (Instr.fieldAt 39 (.pointer (some ⟨X, 0, none⟩)) 2).run Try.prog W = .ok (.pointer (some ⟨X, 2, none⟩)) W := by go_simp
theorem fa_13 (X : Nat) (W : World) : (Instr.fieldAt 39 (.pointer (some ⟨X, 0, none⟩)) 3).run Try.prog W = .ok (.pointer (some ⟨X, 13, none⟩)) W := by go_simp
theorem len_sl (A : Option Addr) (n c : Nat) (ty : TypeId) (W : World) : (Builtin.len_ #[37] ty #[.slice A n c]).run Try.prog W = .ok (.int .i64 (n : Int)) W := by go_simp
theorem strs_of {w : World} {B n : Nat} {v : Value} {xs : List Row} (h : w.ownsRow B 9 1 v n (xs.flatMap encS)) (hn : xs.length = n) : StrsAt w v xs := by
  subst hn
  exact rows_of (fun _ => rfl) (by decide) h
theorem ints_of {w : World} {B n : Nat} {v : Value} {xs : List Int} (h : w.ownsRow B 3 1 v n (xs.flatMap encI)) (hn : xs.length = n) : IntsAt w v xs := by
  subst hn
  exact rows_of (fun _ => rfl) (by decide) h
theorem ents_of {w : World} {B n : Nat} {v : Value} {xs : List En} (h : w.ownsRow B 76 4 v n (xs.flatMap encE)) (hn : xs.length = n) : EntsAt w v xs := by
  subst hn
  exact rows_of (fun _ => rfl) (by decide) h
theorem strs_own {w : World} {B : Nat} {v : Value} {xs : List Row} (h : w.ownsRow B 9 1 v xs.length (xs.flatMap encS)) : StrsAt w v xs := rows_of (fun _ => rfl) (by decide) h
theorem ints_own {w : World} {B : Nat} {v : Value} {xs : List Int} (h : w.ownsRow B 3 1 v xs.length (xs.flatMap encI)) : IntsAt w v xs := rows_of (fun _ => rfl) (by decide) h
theorem ents_own {w : World} {B : Nat} {v : Value} {xs : List En} (h : w.ownsRow B 76 4 v xs.length (xs.flatMap encE)) : EntsAt w v xs := rows_of (fun _ => rfl) (by decide) h
theorem append_bts0 {w0 : World} {ops : Array Oper} {rest : List Oper} {o : Oper} {a : Act} {Q : Exit → Act → World → Prop} (hgd : o.guard = none) (s xo : Operand)
    (ho : o.op = .call { callee := .builtin .append, args := #[s, xo], argTypes := #[22, 22] }) (base : Nat) (v : Value) (l : Row) (A : Option Addr) (c : Nat) (hs : a.eval s = v) (hx : a.eval xo = .slice A 0 c)
    (hown : BOwn base v l w0) (h : wpList Try.prog ops Q rest (a.put o.dst v) w0) : wpList Try.prog ops Q (o :: rest) a w0 := by
  refine wpList_plain hgd fun K hK => ?_
  obtain ⟨i0, hi, hz0, hz1, hz2⟩ := info_parts infoU8
  have hrun : (Builtin.append_ #[22, 22] o.type #[v, .slice A 0 c]).run Try.prog w0 = .ok v w0 := by
    rcases hown.2 with ⟨rfl, h0⟩ | ⟨g, cap, cur, rfl, _, _, hnc, _⟩
    · cases A <;> simp [Builtin.append_, run_underlying Try.underlying22, sizeOf, typeInfo, hi, Builtin.lenOf, Builtin.firstCells, loadCells, loadCellsFrom, Result.andThen]
    · cases A <;> simp [Builtin.append_, run_underlying Try.underlying22, sizeOf, typeInfo, hi, Builtin.lenOf, Builtin.firstCells, hnc, storeCells, loadCells, loadCellsFrom, Result.andThen]
  unfold Oper.wp
  simp [execOp, ho, resolve, invoke, builtin, hs, hx, hrun, Result.andThen]
  exact hK _ _ h
/-- bytes of its own as a string -/
theorem own_str {W : World} {v : Value} {l : Row} {s : ByteArray} (hs : (⟨l.toArray⟩ : ByteArray) = s) (h : ∃ B, BOwn B v l W) : (convert 22 9 v).run Try.prog W = .ok (.string s) W := by
  obtain ⟨B, hB⟩ := h
  rw [← hs]
  exact conv_own hB
/-- bytes that came in as a string -/
theorem conv_bts {W : World} {v : Value} {l : Row} (h : BtsAt W v l) : (convert 22 9 v).run Try.prog W = .ok (.string ⟨l.toArray⟩) W := by
  obtain ⟨A, b, off, c, rfl, k1, k2, k3, k4⟩ := bts_one h
  cases A with
  | none =>
    obtain rfl : l = [] := List.eq_nil_of_length_eq_zero (by
      rcases Nat.eq_zero_or_pos l.length with h | h
      · exact h
      · cases (k3 h).1)
    exact run_convert_bytes_nil W 22 5 Try.underlying22 Try.underlying5 0 c 9 Try.underlying9
  | some p =>
    refine run_convert_bytes_back W 22 9 5 p c l Try.underlying22 Try.underlying5 Try.underlying9 fun j hj => ?_
    obtain ⟨e, hb⟩ := k3 (by omega)
    injection e with e
    subst e
    have hp : (⟨b, off, none⟩ : Addr).add j = ⟨b, off + j, none⟩ := by unfold Addr.add; split <;> simp_all
    rw [hp]
    exact k4 j _ (List.getElem?_eq_getElem hj)

/-- what the operations yield -/
def F20 (E1 E2 E3 : Nat) (be bf bg : Bool) (v4 v6 v8 : Value) (X8 : Nat) (b8 : Option Addr) (j8 : Nat) (sr : ByteArray) (rb : Row) : Nat → Value → World → Prop
  | 0, v, _ => v = .int .i64 (E1 : Int)
  | 1, v, _ => v = .bool (!be)
  | 2, v, _ => v = .bool (!be)
  | 3, v, _ => (!be) = true → v = v4
  | 4, v, _ => (!be) = true → v = .bool true
  | 5, v, _ => (!be) = true → v = .bool false
  | 6, v, _ => v = .bool false
  | 7, v, _ => v = .bool false
  | 8, v, _ => v = .int .i64 (E2 : Int)
  | 9, v, _ => v = .bool (!bf)
  | 10, v, _ => v = .bool (!bf)
  | 11, v, _ => (!bf) = true → v = v6
  | 12, v, W => (!bf) = true → ∃ B, BOwn B v rb W
  | 13, v, _ => (!bf) = true → v = .string sr
  | 14, v, _ => (!bf) = true → v = .agg #[.int .i64 0, .int .i64 0, .string ⟨#[]⟩, .slice none 0 0, .string ⟨#[]⟩]
  | 15, v, W => (!bf) = true → ∃ B, BOwn B v rb W
  | 16, v, _ => (!bf) = true → v = .string sr
  | 17, v, _ => (!bf) = true → v = .bool false
  | 18, v, _ => v = .bool false
  | 19, v, _ => v = .bool false
  | 20, v, _ => v = .bool false
  | 21, v, _ => v = .int .i64 (E3 : Int)
  | 22, v, _ => v = .bool (!bg)
  | 23, v, _ => v = .bool (!bg)
  | 24, v, _ => (!bg) = true → v = .pointer (some ⟨X8, 2, none⟩)
  | 25, v, _ => (!bg) = true → v = v8
  | 26, v, _ => (!bg) = true → v = .bool true
  | 27, v, _ => (!bg) = true → v = .bool false
  | 28, v, _ => Rg.Quest (!bg) v
  | 29, v, _ => (!bg) = true → v = .pointer (some ⟨X8, 0, none⟩)
  | 30, v, _ => (!bg) = true → v = .int .i64 0
  | 31, v, _ => (!bg) = true → v = .bool false
  | 32, v, _ => (!bg) = true → v = .bool false
  | 33, v, _ => Rg.Quest (!bg) v
  | 34, v, _ => (!bg) = true → v = .pointer (some ⟨X8, 1, none⟩)
  | 35, v, _ => (!bg) = true → v = .int .i64 0
  | 36, v, _ => (!bg) = true → v = .bool false
  | 37, v, _ => (!bg) = true → v = .bool false
  | 38, v, _ => Rg.Quest (!bg) v
  | 39, v, _ => (!bg) = true → v = .pointer (some ⟨X8, 13, none⟩)
  | 40, v, _ => (!bg) = true → v = .slice b8 0 j8
  | 41, v, _ => (!bg) = true → v = .int .i64 ((0 : Nat) : Int)
  | 42, v, _ => (!bg) = true → v = .bool false
  | 43, v, _ => (!bg) = true → v = .bool false
  | 44, v, _ => v = .bool false
  | 45, v, _ => v = .bool false
  | _, _, _ => True
theorem F20_mono (E1 E2 E3 : Nat) (be bf bg : Bool) (v4 v6 v8 : Value) (X8 : Nat) (b8 : Option Addr) (j8 : Nat) (sr : ByteArray) (rb : Row) : ∀ i v W W', F20 E1 E2 E3 be bf bg v4 v6 v8 X8 b8 j8 sr rb i v W → Below W.heap.size W W' → F20 E1 E2 E3 be bf bg v4 v6 v8 X8 b8 j8 sr rb i v W' := fun i v W W' h hb => by
  match i, h with
  | 0, h => exact h
  | 1, h => exact h
  | 2, h => exact h
  | 3, h => exact h
  | 4, h => exact h
  | 5, h => exact h
  | 6, h => exact h
  | 7, h => exact h
  | 8, h => exact h
  | 9, h => exact h
  | 10, h => exact h
  | 11, h => exact h
  | 12, h => exact fun hw => (h hw).elim fun B hB => ⟨B, hB.kept hb⟩
  | 13, h => exact h
  | 14, h => exact h
  | 15, h => exact fun hw => (h hw).elim fun B hB => ⟨B, hB.kept hb⟩
  | 16, h => exact h
  | 17, h => exact h
  | 18, h => exact h
  | 19, h => exact h
  | 20, h => exact h
  | 21, h => exact h
  | 22, h => exact h
  | 23, h => exact h
  | 24, h => exact h
  | 25, h => exact h
  | 26, h => exact h
  | 27, h => exact h
  | 28, h => exact h
  | 29, h => exact h
  | 30, h => exact h
  | 31, h => exact h
  | 32, h => exact h
  | 33, h => exact h
  | 34, h => exact h
  | 35, h => exact h
  | 36, h => exact h
  | 37, h => exact h
  | 38, h => exact h
  | 39, h => exact h
  | 40, h => exact h
  | 41, h => exact h
  | 42, h => exact h
  | 43, h => exact h
  | 44, h => exact h
  | 45, h => exact h
  | _ + 46, h => exact trivial
def wF20 (be bf bg : Bool) : Nat → Bool
  | 3 => !be
  | 4 => !be
  | 5 => !be
  | 11 => !bf
  | 12 => !bf
  | 13 => !bf
  | 14 => !bf
  | 15 => !bf
  | 16 => !bf
  | 17 => !bf
  | 24 => !bg
  | 25 => !bg
  | 26 => !bg
  | 27 => !bg
  | 28 => !bg
  | 29 => !bg
  | 30 => !bg
  | 31 => !bg
  | 32 => !bg
  | 33 => !bg
  | 34 => !bg
  | 35 => !bg
  | 36 => !bg
  | 37 => !bg
  | 38 => !bg
  | 39 => !bg
  | 40 => !bg
  | 41 => !bg
  | 42 => !bg
  | 43 => !bg
  | _ => true
/-- what the operations yield -/
def F22 (E1 E2 : Nat) (be bf : Bool) (v0 v4 v6 v14 v15 : Value) (st : ByteArray) (l : Row) : Nat → Value → World → Prop
  | 0, v, _ => v = .int .i64 (E1 : Int)
  | 1, v, _ => v = .bool be
  | 2, v, _ => v = .bool be
  | 3, v, _ => be = true → v = v4
  | 4, v, W => be = true → ∃ B, BOwn B v l W
  | 5, v, _ => be = true → v = .string st
  | 6, v, _ => be = true → v = v0
  | 7, v, _ => be = true → v = .string st
  | 8, v, _ => be = true → v = .bool false
  | 9, v, _ => Rg.Quest be v
  | 10, v, _ => be = true → v = v14
  | 11, v, W => be = true → ∃ B, BOwn B v l W
  | 12, v, _ => be = true → v = .string st
  | 13, v, _ => be = true → v = v0
  | 14, v, _ => be = true → v = .string st
  | 15, v, _ => be = true → v = .bool false
  | 16, v, _ => be = true → v = .bool false
  | 17, v, _ => v = .bool false
  | 18, v, _ => v = .bool false
  | 19, v, _ => v = .int .i64 (E2 : Int)
  | 20, v, _ => v = .bool bf
  | 21, v, _ => v = .bool bf
  | 22, v, _ => bf = true → v = v6
  | 23, v, W => bf = true → ∃ B, BOwn B v l W
  | 24, v, _ => bf = true → v = .string st
  | 25, v, _ => bf = true → v = v0
  | 26, v, _ => bf = true → v = .string st
  | 27, v, _ => bf = true → v = .bool false
  | 28, v, _ => Rg.Quest bf v
  | 29, v, _ => bf = true → v = v15
  | 30, v, W => bf = true → ∃ B, BOwn B v l W
  | 31, v, _ => bf = true → v = .string st
  | 32, v, _ => bf = true → v = v0
  | 33, v, _ => bf = true → v = .string st
  | 34, v, _ => bf = true → v = .bool false
  | 35, v, _ => bf = true → v = .bool false
  | 36, v, _ => v = .bool false
  | 37, v, _ => v = .bool false
  | _, _, _ => True
theorem F22_mono (E1 E2 : Nat) (be bf : Bool) (v0 v4 v6 v14 v15 : Value) (st : ByteArray) (l : Row) : ∀ i v W W', F22 E1 E2 be bf v0 v4 v6 v14 v15 st l i v W → Below W.heap.size W W' → F22 E1 E2 be bf v0 v4 v6 v14 v15 st l i v W' := fun i v W W' h hb => by
  match i, h with
  | 0, h => exact h
  | 1, h => exact h
  | 2, h => exact h
  | 3, h => exact h
  | 4, h => exact fun hw => (h hw).elim fun B hB => ⟨B, hB.kept hb⟩
  | 5, h => exact h
  | 6, h => exact h
  | 7, h => exact h
  | 8, h => exact h
  | 9, h => exact h
  | 10, h => exact h
  | 11, h => exact fun hw => (h hw).elim fun B hB => ⟨B, hB.kept hb⟩
  | 12, h => exact h
  | 13, h => exact h
  | 14, h => exact h
  | 15, h => exact h
  | 16, h => exact h
  | 17, h => exact h
  | 18, h => exact h
  | 19, h => exact h
  | 20, h => exact h
  | 21, h => exact h
  | 22, h => exact h
  | 23, h => exact fun hw => (h hw).elim fun B hB => ⟨B, hB.kept hb⟩
  | 24, h => exact h
  | 25, h => exact h
  | 26, h => exact h
  | 27, h => exact h
  | 28, h => exact h
  | 29, h => exact h
  | 30, h => exact fun hw => (h hw).elim fun B hB => ⟨B, hB.kept hb⟩
  | 31, h => exact h
  | 32, h => exact h
  | 33, h => exact h
  | 34, h => exact h
  | 35, h => exact h
  | 36, h => exact h
  | 37, h => exact h
  | _ + 38, h => exact trivial
def wF22 (be bf bg : Bool) : Nat → Bool
  | 3 => be
  | 4 => be
  | 5 => be
  | 6 => be
  | 7 => be
  | 8 => be
  | 9 => be
  | 10 => be
  | 11 => be
  | 12 => be
  | 13 => be
  | 14 => be
  | 15 => be
  | 16 => be
  | 22 => bf
  | 23 => bf
  | 24 => bf
  | 25 => bf
  | 26 => bf
  | 27 => bf
  | 28 => bf
  | 29 => bf
  | 30 => bf
  | 31 => bf
  | 32 => bf
  | 33 => bf
  | 34 => bf
  | 35 => bf
  | _ => true
open Rg in
set_option maxHeartbeats 64000000 in
set_option maxRecDepth 100000 in
theorem gets_walk (w : World) (v0 : Value) (l : Row) (hb : BtsAt w v0 l) :
    Calls Try.prog 3 #[v0] w fun e w' => e = .returned (.bool true) ∧ Below w.heap.size w w' := by
  have cF := first_any w
  obtain ⟨A, db, off, cp, rfl, q1, q2, -, -⟩ := bts_one hb
  have hb' := Lib.hid hb
  clear hb
  obtain ⟨n, hn⟩ : ∃ n, l.length = n := ⟨_, rfl⟩
  have hn' := Lib.hid hn
  rw [hn] at q1 hb' ⊢
  clear hn
  go_enter Try.func3, Try.ntmps3
  go_wp2_with fail
  go_at_call 9
  refine cF.mono ?_
  rintro e w2 ⟨rfl, hb2⟩
  have hb2' := Lib.hid hb2
  clear cF hb2
  by_cases h5 : 50000 < n
  · have g1 : decide (50000 < n) = true := decide_eq_true h5
    have g2 : decide ((50000 : Int) < (n : Int)) = true := decide_eq_true (by omega)
    go_wp2
    go_ret
    exact ⟨rfl, hb2'.out⟩
  have g1 : decide (50000 < n) = false := decide_eq_false h5
  have g2 : decide ((50000 : Int) < (n : Int)) = false := decide_eq_false (by omega)
  have hE := Lib.hid (own_empty w2)
  have hx2 := Lib.hid ((hb'.out.kept hb2'.out).kept (below_one w2 (.cells #[] 5)))
  have hsz2 : w2.heap.size ≤ (w2.alloc (.cells #[] 5)).heap.size := (below_one w2 _).size
  go_upto_region 5 with fail
  clear g1 g2
  go_cut [3] from 26 to 28 (fun s3 wx => ∃ g cap, s3 = .slice (some ⟨g, 0, none⟩) n cap ∧ Hid (BOwn w2.heap.size (.slice (some ⟨g, 0, none⟩) n cap) l wx ∧ Below w2.heap.size w2 wx))
  case first =>
    by_cases hn0 : n = 0
    · subst hn0
      have hnil : l = [] := List.eq_nil_of_length_eq_zero hn'.out
      have hF := Lib.hid (And.intro hE.out (below_one w2 (.cells #[] 5)))
      go_wp2_with (first
        | (at_builtin; refine append_bts0 rfl _ _ rfl w2.heap.size _ [] _ _ rfl rfl hE.out ?_)
        | fail)
      go_meet
      case rel => exact ⟨_, _, rfl, Lib.hid ⟨by rw [hnil]; exact hF.out.1, hF.out.2⟩⟩
    · have hlp : 0 < l.length := by rw [hn'.out]; omega
      have hlr : ([] : Row).length + l.length ≤ 140737488355328 := by rw [hn'.out]; simp; omega
      go_wp2_with (first
        | (at_builtin; refine append_btsL rfl _ _ rfl w2.heap.size _ [] _ l rfl rfl hx2.out hlp hE.out hlr hsz2 n (by rw [hn'.out]; simp) l rfl ?_; intro g3 cap3 w3 hw3; have hW3 := Lib.hid hw3)
        | fail)
      go_meet
      case rel => exact ⟨_, _, rfl, Lib.hid ⟨hW3.out.own, hW3.out.below hE.out (below_one w2 _) hsz2⟩⟩
  case rest =>
    obtain ⟨g3, cap3, rfl, hP⟩ := hcut
    obtain ⟨w3, rfl⟩ : ∃ x, x = wc := ⟨_, rfl⟩
    have hb3 := Lib.hid (hb2'.out.trans (hP.out.2.mono hb2'.out.size))
    have hO3 := Lib.hid hP.out.1
    clear hP
    have cG := getCom_any w3 (.slice (some ⟨g3, 0, none⟩) n cap3) l hO3.out.bin (by rw [hn'.out]; omega)
    obtain ⟨c, hc⟩ : ∃ x, (got comS com0 l).1 = x := ⟨_, rfl⟩
    obtain ⟨E1, hE1⟩ : ∃ x, (got comS com0 l).2 = x := ⟨_, rfl⟩
    have Dc := Lib.hid (And.intro hc hE1)
    rw [hc, hE1] at cG
    unfold comV comC at cG
    obtain ⟨y1, ec1⟩ : ∃ t : ByteArray, sv c.book = .string t := ⟨_, rfl⟩
    obtain ⟨y2, ec2⟩ : ∃ t : ByteArray, sv c.name = .string t := ⟨_, rfl⟩
    obtain ⟨y3, ec3⟩ : ∃ t : ByteArray, sv c.data = .string t := ⟨_, rfl⟩
    obtain ⟨y4, ec4⟩ : ∃ t : ByteArray, sv c.mat = .string t := ⟨_, rfl⟩
    obtain ⟨y5, ec5⟩ : ∃ t : ByteArray, sv c.non = .string t := ⟨_, rfl⟩
    obtain ⟨y6, ec6⟩ : ∃ t : ByteArray, sv c.tok = .string t := ⟨_, rfl⟩
    rw [ec1, ec2, ec3, ec4, ec5, ec6] at cG
    have Yc := Lib.hid (And.intro ec1 (And.intro ec2 (And.intro ec3 (And.intro ec4 (And.intro ec5 (ec6))))))
    clear hc hE1 ec1 ec2 ec3 ec4 ec5 ec6
    go_wp2_with fail
    go_at_call 10
    refine cG.mono ?_
    rintro e w4 ⟨nv4, rfl, hO4, hb4⟩
    obtain ⟨a4, k4, rfl⟩ := own_form hO4
    obtain ⟨n4, hn4⟩ : ∃ x, c.names.length = x := ⟨_, rfl⟩
    rw [hn4] at hO4 ⊢
    have N4 := Lib.hid hn4
    clear cG hn4
    go_upto_region 7 with fail
    obtain ⟨w5, hww5⟩ : ∃ q0, w4.alloc (.cells #[.int .i64 c.op, .string y1, .string y2, .string y3, .string y4, .string y5, .string y6, .slice a4 n4 k4, .int .i64 c.pos, .int .i64 c.ses, .int .i64 c.seq] 27) = q0 := ⟨_, rfl⟩
    have hbw5 : Below w4.heap.size w4 w5 := by rw [← hww5]; exact below_one _ _
    have hxw5 : w5.heap[w4.heap.size]? = some (.cells #[.int .i64 c.op, .string y1, .string y2, .string y3, .string y4, .string y5, .string y6, .slice a4 n4 k4, .int .i64 c.pos, .int .i64 c.ses, .int .i64 c.seq] 27 (0, 0)) := by rw [← hww5]; exact heap_alloc_new w4 _
    rw [hww5]
    obtain ⟨X4, hXX4⟩ : ∃ q0, w4.heap.size = q0 := ⟨_, rfl⟩
    rw [hXX4] at hxw5 ⊢
    have lX4 := (Array.getElem?_eq_some_iff.1 hxw5).1
    have mX4 : w4.heap.size ≤ X4 := by omega
    have hb4s := hb4.size
    have hB5 := Lib.hid (hb3.out.trans ((hb4.trans (hbw5.mono hb4.size)).mono hb3.out.size))
    have hO5 := Lib.hid ((hO3.out.kept hb4).kept hbw5)
    have G5 := Lib.hid (And.intro hxw5 (ownsRow_kept hO4 hbw5))
    have hb4sz := Nat.le_trans hb4s hbw5.size
    clear hO4 hb4 hbw5 hxw5 hww5
    have cG := getRep_any w5 (.slice (some ⟨g3, 0, none⟩) n cap3) l hO5.out.bin (by rw [hn'.out]; omega)
    obtain ⟨r, hr⟩ : ∃ x, (got repS rep0 l).1 = x := ⟨_, rfl⟩
    obtain ⟨E2, hE2⟩ : ∃ x, (got repS rep0 l).2 = x := ⟨_, rfl⟩
    have Dr := Lib.hid (And.intro hr hE2)
    rw [hr, hE2] at cG
    unfold repV at cG
    obtain ⟨z1, er1⟩ : ∃ t : ByteArray, sv r.data = .string t := ⟨_, rfl⟩
    obtain ⟨z2, er2⟩ : ∃ t : ByteArray, sv r.tok = .string t := ⟨_, rfl⟩
    rw [er1, er2] at cG
    have Yr := Lib.hid (And.intro er1 (er2))
    clear hr hE2 er1 er2
    go_wp2_with fail
    go_at_call 11
    refine cG.mono ?_
    rintro e w6 ⟨nv6, rfl, hO6, hb6⟩
    obtain ⟨a6, k6, rfl⟩ := own_form hO6
    obtain ⟨n6, hn6⟩ : ∃ x, r.ents.length = x := ⟨_, rfl⟩
    rw [hn6] at hO6 ⊢
    have N6 := Lib.hid hn6
    clear cG hn6
    go_upto_region 8 with fail
    obtain ⟨w7, hww7⟩ : ∃ q0, w6.alloc (.cells #[.int .i64 r.st, .int .i64 r.tag, .string z1, .slice a6 n6 k6, .string z2] 33) = q0 := ⟨_, rfl⟩
    have hbw7 : Below w6.heap.size w6 w7 := by rw [← hww7]; exact below_one _ _
    have hxw7 : w7.heap[w6.heap.size]? = some (.cells #[.int .i64 r.st, .int .i64 r.tag, .string z1, .slice a6 n6 k6, .string z2] 33 (0, 0)) := by rw [← hww7]; exact heap_alloc_new w6 _
    rw [hww7]
    obtain ⟨X6, hXX6⟩ : ∃ q0, w6.heap.size = q0 := ⟨_, rfl⟩
    rw [hXX6] at hxw7 ⊢
    have lX6 := (Array.getElem?_eq_some_iff.1 hxw7).1
    have mX6 : w6.heap.size ≤ X6 := by omega
    have hb6s := Nat.le_trans hb4sz hb6.size
    have hBk := hb6.trans (hbw7.mono hb6.size)
    have hB7 := Lib.hid (hB5.out.trans (hBk.mono hB5.out.size))
    have hO7 := Lib.hid (hO5.out.kept hBk)
    have G7 := Lib.hid (And.intro ((hBk.block X4 lX4).trans G5.out.1) (And.intro (ownsRow_kept G5.out.2 hBk) (And.intro hxw7 (ownsRow_kept hO6 hbw7))))
    have hb6sz := Nat.le_trans hb6s hbw7.size
    have lX4b : X4 < w7.heap.size := by have := hBk.size; omega
    clear hO6 hb6 hbw7 hxw7 hww7 hBk G5 hO5
    have cG := getLog_any w7 (.slice (some ⟨g3, 0, none⟩) n cap3) l hO7.out.bin (by rw [hn'.out]; omega)
    obtain ⟨g, hg⟩ : ∃ x, (got logS lg0 l).1 = x := ⟨_, rfl⟩
    obtain ⟨E3, hE3⟩ : ∃ x, (got logS lg0 l).2 = x := ⟨_, rfl⟩
    have Dg := Lib.hid (And.intro hg hE3)
    rw [hg, hE3] at cG
    unfold logV at cG
    obtain ⟨l1, el1⟩ : ∃ t : ByteArray, sv g.com.book = .string t := ⟨_, rfl⟩
    obtain ⟨l2, el2⟩ : ∃ t : ByteArray, sv g.com.name = .string t := ⟨_, rfl⟩
    obtain ⟨l3, el3⟩ : ∃ t : ByteArray, sv g.com.data = .string t := ⟨_, rfl⟩
    obtain ⟨l4, el4⟩ : ∃ t : ByteArray, sv g.com.mat = .string t := ⟨_, rfl⟩
    obtain ⟨l5, el5⟩ : ∃ t : ByteArray, sv g.com.non = .string t := ⟨_, rfl⟩
    obtain ⟨l6, el6⟩ : ∃ t : ByteArray, sv g.com.tok = .string t := ⟨_, rfl⟩
    rw [el1, el2, el3, el4, el5, el6] at cG
    have Yg := Lib.hid (And.intro el1 (And.intro el2 (And.intro el3 (And.intro el4 (And.intro el5 (el6))))))
    clear hg hE3 el1 el2 el3 el4 el5 el6
    go_wp2_with fail
    go_at_call 12
    refine cG.mono ?_
    rintro e w8 ⟨nv8, ds8, rfl, hO8, hP8, hb8⟩
    obtain ⟨a8, k8, rfl⟩ := own_form hO8
    obtain ⟨b8, j8, rfl⟩ := own_form hP8
    obtain ⟨n8, hn8⟩ : ∃ x, g.com.names.length = x := ⟨_, rfl⟩
    obtain ⟨m8, hm8⟩ : ∃ x, g.nodes.length = x := ⟨_, rfl⟩
    rw [hn8] at hO8 ⊢
    rw [hm8] at hP8 ⊢
    have N8 := Lib.hid (And.intro hn8 hm8)
    clear cG hn8 hm8
    go_upto_region 9 with fail
    obtain ⟨w9, hww9⟩ : ∃ q0, w8.alloc (.cells #[.int .i64 g.term, .int .i64 g.kind, .int .i64 g.com.op, .string l1, .string l2, .string l3, .string l4, .string l5, .string l6, .slice a8 n8 k8, .int .i64 g.com.pos, .int .i64 g.com.ses, .int .i64 g.com.seq, .slice b8 m8 j8] 39) = q0 := ⟨_, rfl⟩
    have hbw9 : Below w8.heap.size w8 w9 := by rw [← hww9]; exact below_one _ _
    have hxw9 : w9.heap[w8.heap.size]? = some (.cells #[.int .i64 g.term, .int .i64 g.kind, .int .i64 g.com.op, .string l1, .string l2, .string l3, .string l4, .string l5, .string l6, .slice a8 n8 k8, .int .i64 g.com.pos, .int .i64 g.com.ses, .int .i64 g.com.seq, .slice b8 m8 j8] 39 (0, 0)) := by rw [← hww9]; exact heap_alloc_new w8 _
    rw [hww9]
    obtain ⟨X8, hXX8⟩ : ∃ q0, w8.heap.size = q0 := ⟨_, rfl⟩
    rw [hXX8] at hxw9 ⊢
    have lX8 := (Array.getElem?_eq_some_iff.1 hxw9).1
    have mX8 : w8.heap.size ≤ X8 := by omega
    have hb8s := Nat.le_trans hb6sz hb8.size
    have hBk := hb8.trans (hbw9.mono hb8.size)
    have hB9 := Lib.hid (hB7.out.trans (hBk.mono hB7.out.size))
    have hO9 := Lib.hid (hO7.out.kept hBk)
    have G9 := Lib.hid (And.intro ((hBk.block X4 lX4b).trans G7.out.1) (And.intro (ownsRow_kept G7.out.2.1 hBk) (And.intro ((hBk.block X6 lX6).trans G7.out.2.2.1) (And.intro (ownsRow_kept G7.out.2.2.2 hBk) (And.intro hxw9 (And.intro (ownsRow_kept hO8 hbw9) (ownsRow_kept hP8 hbw9)))))))
    have lX4c : X4 < w9.heap.size := by have := hBk.size; omega
    have lX6c : X6 < w9.heap.size := by have := hBk.size; omega
    have hg3 : w2.heap.size ≤ g3 ∧ g3 < w3.heap.size := World.ownsRow.lt hO3.out g3 rfl
    have hge : w3.heap.size ≤ X4 ∧ w3.heap.size ≤ X6 ∧ w3.heap.size ≤ X8 := by
      have a1 := hb4s
      have a2 := hb6s
      have a3 := hb8s
      omega
    clear hO8 hP8 hb8 hbw9 hxw9 hww9 hBk G7 hO7
    go_wp2_with fail
    go_loopw [46] (fun s46 wr => ∃ (k : Nat) (R : Row), s46 = .int .i64 (k : Int) ∧ k ≤ n ∧ Hid (BOwn w2.heap.size (.slice (some ⟨g3, 0, none⟩) n cap3) R wr ∧ R.length = n ∧ Kp [g3] w9 wr)) (fun s46 wr => n - (RowKit.intOf s46).toNat)
    case atStart => exact ⟨0, l, rfl, by omega, Lib.hid ⟨hO9.out, hn'.out, Kp.refl _ _⟩⟩
    case round =>
      obtain ⟨k, R, rfl, hk, hI⟩ := hrel
      by_cases hlt : k < n
      · obtain ⟨y, hy⟩ : ∃ y, R[k]? = some y := ⟨_, List.getElem?_eq_getElem (by rw [hI.out.2.1]; exact hlt)⟩
        obtain ⟨d0, f0⟩ := own_cellG hI.out.1 hy
        obtain ⟨hs1, hs2⟩ := own_setG hI.out.1 k (y ^^^ 255)
        have e3 : bits .xor .u8 (y.toNat : Int) 255 = ((y ^^^ 255).toNat : Int) := by
          have := u8_xor_nat y.toNat 255 y.toNat_lt (by decide)
          rw [UInt8.toNat_xor]
          exact this
        obtain ⟨q, hq⟩ : ∃ q, y ^^^ 255 = q := ⟨_, rfl⟩
        rw [hq] at hs1 hs2 e3
        have hS := Lib.hid (And.intro hs1 (And.intro (show (R.set k q).length = n by rw [List.length_set]; exact hI.out.2.1) (hI.out.2.2.trans hs2)))
        clear hI hs1 hs2 hq hy
        go_wp2
        go_roundw
        case rel => exact ⟨k + 1, _, by go_num, by omega, hS⟩
        case measure => simp [RowKit.intOf]; omega
      · obtain rfl : n = k := by omega
        obtain ⟨wL, rfl⟩ : ∃ x, x = wr := ⟨_, rfl⟩
        have hKL := hI.out.2.2
        have hBL := Lib.hid (hKL.below hB9.out (fun j hj => Nat.le_trans (Nat.le_trans hb2'.out.size hg3.1) (by have e : j = g3 := (by simpa using hj); omega)) hB9.out.size)
        have GL := Lib.hid (And.intro ((hKL.block X4 lX4c (by simp; omega)).trans G9.out.1) (And.intro (ownsRow_kp G9.out.2.1 hKL hg3.2) (And.intro ((hKL.block X6 lX6c (by simp; omega)).trans G9.out.2.2.1) (And.intro (ownsRow_kp G9.out.2.2.2.1 hKL (by omega)) (And.intro ((hKL.block X8 lX8 (by simp; omega)).trans G9.out.2.2.2.2.1) (And.intro (ownsRow_kp G9.out.2.2.2.2.2.1 hKL (by omega)) (ownsRow_kp G9.out.2.2.2.2.2.2 hKL (by omega))))))))
        have zL := hKL.size
        clear hI hKL G9 hO9 hO3
        go_upto_region 15 with fail
        obtain ⟨wT1, hw1⟩ : ∃ x, wL.alloc (.cells #[.slice A n cp, .int .i64 0, .bool false, .bool false] 44) = x := ⟨_, rfl⟩
        obtain ⟨wT2, hw2⟩ : ∃ x, wT1.alloc (.cells #[.slice A n cp, .int .i64 0, .bool false, .bool false] 44) = x := ⟨_, rfl⟩
        obtain ⟨wT, hw3⟩ : ∃ x, wT2.alloc (.cells #[.slice A n cp, .int .i64 0, .bool false, .bool false] 44) = x := ⟨_, rfl⟩
        rw [hw1, hw2, hw3]
        have t1 : Below wL.heap.size wL wT1 := by rw [← hw1]; exact below_one _ _
        have t2 : Below wT1.heap.size wT1 wT2 := by rw [← hw2]; exact below_one _ _
        have t3 : Below wT2.heap.size wT2 wT := by rw [← hw3]; exact below_one _ _
        have y1 : wT1.heap[wL.heap.size]? = some (.cells #[.slice A n cp, .int .i64 0, .bool false, .bool false] 44 (0, 0)) := by rw [← hw1]; exact heap_alloc_new wL _
        have y2 : wT2.heap[wT1.heap.size]? = some (.cells #[.slice A n cp, .int .i64 0, .bool false, .bool false] 44 (0, 0)) := by rw [← hw2]; exact heap_alloc_new wT1 _
        have y3 : wT.heap[wT2.heap.size]? = some (.cells #[.slice A n cp, .int .i64 0, .bool false, .bool false] 44 (0, 0)) := by rw [← hw3]; exact heap_alloc_new wT2 _
        obtain ⟨T1, hT1⟩ : ∃ x, wL.heap.size = x := ⟨_, rfl⟩
        have s1 : wT1.heap.size = T1 + 1 := by rw [← hw1, ← hT1]; simp
        have s2 : wT2.heap.size = T1 + 1 + 1 := by rw [← hw2]; simp; omega
        have s3 : wT.heap.size = T1 + 1 + 1 + 1 := by rw [← hw3]; simp; omega
        rw [hT1] at y1 t1
        rw [s1] at y2 t2
        rw [s2] at y3 t3
        have u1 := (t3.block T1 (by omega)).trans ((t2.block T1 (by omega)).trans y1)
        have u2 := (t3.block (T1 + 1) (by omega)).trans y2
        have tL : Below T1 wL wT := (t1.trans (t2.mono (by omega))).trans (t3.mono (by omega))
        have HT := Lib.hid (And.intro u1 (And.intro u2 (And.intro y3 tL)))
        have hBT := Lib.hid (hBL.out.trans (by rw [← hT1] at tL; exact tL.mono hBL.out.size))
        have hwT : w.heap.size ≤ T1 := by rw [← hT1]; exact hBL.out.size
        have s3' := Lib.hid s3
        clear hw1 hw2 hw3 t1 t2 t3 y1 y2 y3 u1 u2 tL s1 s2 s3
        rw [hT1]
        obtain ⟨T2, hT2⟩ : ∃ x, T1 + 1 = x := ⟨_, rfl⟩
        rw [hT2] at HT s3' ⊢
        obtain ⟨T3, hT3⟩ : ∃ x, T2 + 1 = x := ⟨_, rfl⟩
        rw [hT3] at HT s3' ⊢
        have sT := s3'.out
        have hSt := Lib.hid (show (some (l, false) : St) = some (l, false) from rfl)
        have PT1 : TpIs wT (T1 + 1) T1 l (some (l, false)) := tp_new (A := A) (c := cp) (by rw [hn'.out]; exact hb'.out) hBT.out (by omega) (by rw [hn'.out]; exact HT.out.1)
        have cG := tpCommand_any wT (T1 + 1) T1 l _ PT1 (by rw [hn'.out]; omega) (by omega) (by omega) wT.heap.size (Nat.le_refl _)
        obtain ⟨x, hx⟩ : ∃ x, (comS (some (l, false))).1 = x := ⟨_, rfl⟩
        obtain ⟨S1, hS1⟩ : ∃ x, (comS (some (l, false))).2 = x := ⟨_, rfl⟩
        have Dx := Lib.hid (And.intro hx hS1)
        rw [hx, hS1] at cG
        unfold comV comC at cG
        obtain ⟨x1, ex1⟩ : ∃ t : ByteArray, sv x.book = .string t := ⟨_, rfl⟩
        obtain ⟨x2, ex2⟩ : ∃ t : ByteArray, sv x.name = .string t := ⟨_, rfl⟩
        obtain ⟨x3, ex3⟩ : ∃ t : ByteArray, sv x.data = .string t := ⟨_, rfl⟩
        obtain ⟨x4, ex4⟩ : ∃ t : ByteArray, sv x.mat = .string t := ⟨_, rfl⟩
        obtain ⟨x5, ex5⟩ : ∃ t : ByteArray, sv x.non = .string t := ⟨_, rfl⟩
        obtain ⟨x6, ex6⟩ : ∃ t : ByteArray, sv x.tok = .string t := ⟨_, rfl⟩
        rw [ex1, ex2, ex3, ex4, ex5, ex6] at cG
        have Yx := Lib.hid (And.intro ex1 (And.intro ex2 (And.intro ex3 (And.intro ex4 (And.intro ex5 (ex6))))))
        clear hx hS1 ex1 ex2 ex3 ex4 ex5 ex6 PT1
        go_wp2_with fail
        go_at_call 13
        refine cG.mono ?_
        rintro e w15 ⟨nv14, rfl, hO14, hP1, hK1⟩
        obtain ⟨a14, k14, rfl⟩ := own_form hO14
        obtain ⟨n14, hn14⟩ : ∃ q, x.names.length = q := ⟨_, rfl⟩
        rw [hn14] at hO14 ⊢
        have N14 := Lib.hid hn14
        clear cG hn14
        go_upto_region 16 with fail
        obtain ⟨wA, hwwA⟩ : ∃ q0, w15.alloc (.cells #[.int .i64 x.op, .string x1, .string x2, .string x3, .string x4, .string x5, .string x6, .slice a14 n14 k14, .int .i64 x.pos, .int .i64 x.ses, .int .i64 x.seq] 27) = q0 := ⟨_, rfl⟩
        have hbwA : Below w15.heap.size w15 wA := by rw [← hwwA]; exact below_one _ _
        have hxwA : wA.heap[w15.heap.size]? = some (.cells #[.int .i64 x.op, .string x1, .string x2, .string x3, .string x4, .string x5, .string x6, .slice a14 n14 k14, .int .i64 x.pos, .int .i64 x.ses, .int .i64 x.seq] 27 (0, 0)) := by rw [← hwwA]; exact heap_alloc_new w15 _
        rw [hwwA]
        obtain ⟨X14, hXX14⟩ : ∃ q0, w15.heap.size = q0 := ⟨_, rfl⟩
        rw [hXX14] at hxwA ⊢
        have lX14 := (Array.getElem?_eq_some_iff.1 hxwA).1
        have mX14 : w15.heap.size ≤ X14 := by omega
        have hk1s := hK1.size
        have BA := Lib.hid (((hK1.below HT.out.2.2.2 (fun j hj => by have : j = T1 := (by simpa using hj); omega) (by omega)).trans (hbwA.mono (by omega))))
        have hBA := Lib.hid ((hK1.below hBT.out (fun j hj => by have : j = T1 := (by simpa using hj); omega) hBT.out.size).trans (hbwA.mono (by have := hBT.out.size; omega)))
        have GA := Lib.hid (And.intro (hP1.kept hbwA) (And.intro ((hbwA.block T2 (by omega)).trans ((hK1.block T2 (by omega) (by simp; omega)).trans HT.out.2.1)) (And.intro ((hbwA.block T3 (by omega)).trans ((hK1.block T3 (by omega) (by simp; omega)).trans HT.out.2.2.1)) (And.intro hxwA (ownsRow_kept hO14 hbwA)))))
        have zA : T3 < wA.heap.size := by have := hbwA.size; omega
        have lo14 : wT.heap.size ≤ X14 := by omega
        clear hO14 hP1 hK1 hbwA hxwA hwwA HT
        have PT2 : TpIs wA (T2 + 1) T2 l (some (l, false)) := tp_new (A := A) (c := cp) (by rw [hn'.out]; exact hb'.out) hBA.out (by omega) (by rw [hn'.out]; exact GA.out.2.1)
        have cG := tpReply_any wA (T2 + 1) T2 l _ PT2 (by rw [hn'.out]; omega) (by omega) (by omega)
        obtain ⟨y, hy⟩ : ∃ q, (repS (some (l, false))).1 = q := ⟨_, rfl⟩
        obtain ⟨S2, hS2⟩ : ∃ q, (repS (some (l, false))).2 = q := ⟨_, rfl⟩
        have Dy := Lib.hid (And.intro hy hS2)
        rw [hy, hS2] at cG
        unfold repV at cG
        obtain ⟨v1, ey1⟩ : ∃ t : ByteArray, sv y.data = .string t := ⟨_, rfl⟩
        obtain ⟨v2, ey2⟩ : ∃ t : ByteArray, sv y.tok = .string t := ⟨_, rfl⟩
        rw [ey1, ey2] at cG
        have Yy := Lib.hid (And.intro ey1 (ey2))
        clear hy hS2 ey1 ey2 PT2
        go_wp2_with fail
        go_at_call 14
        refine cG.mono ?_
        rintro e w16 ⟨nv15, rfl, hE15, hP2, hK2⟩
        obtain ⟨a15, b15, o15, k15, rfl, -, -, -, -⟩ := id hE15
        obtain ⟨n15, hn15⟩ : ∃ q, y.ents.length = q := ⟨_, rfl⟩
        rw [hn15] at hE15 ⊢
        have N15 := Lib.hid hn15
        clear cG hn15
        go_upto_region 17 with fail
        obtain ⟨wB, hwwB⟩ : ∃ q0, w16.alloc (.cells #[.int .i64 y.st, .int .i64 y.tag, .string v1, .slice a15 n15 k15, .string v2] 33) = q0 := ⟨_, rfl⟩
        have hbwB : Below w16.heap.size w16 wB := by rw [← hwwB]; exact below_one _ _
        have hxwB : wB.heap[w16.heap.size]? = some (.cells #[.int .i64 y.st, .int .i64 y.tag, .string v1, .slice a15 n15 k15, .string v2] 33 (0, 0)) := by rw [← hwwB]; exact heap_alloc_new w16 _
        rw [hwwB]
        obtain ⟨X15, hXX15⟩ : ∃ q0, w16.heap.size = q0 := ⟨_, rfl⟩
        rw [hXX15] at hxwB ⊢
        have lX15 := (Array.getElem?_eq_some_iff.1 hxwB).1
        have mX15 : w16.heap.size ≤ X15 := by omega
        have hk2s := hK2.size
        have BB := Lib.hid (((hK2.below BA.out (fun j hj => by have : j = T2 := (by simpa using hj); omega) (by omega)).trans (hbwB.mono (by omega))))
        have hBB := Lib.hid ((hK2.below hBA.out (fun j hj => by have : j = T2 := (by simpa using hj); omega) hBA.out.size).trans (hbwB.mono (by have := hBA.out.size; omega)))
        have GB := Lib.hid (And.intro ((GA.out.1.frame hk2s (fun j hj => hK2.block j (by omega) (by simp; omega))).kept hbwB) (And.intro (hP2.kept hbwB) (And.intro ((hbwB.block T3 (by omega)).trans ((hK2.block T3 (by omega) (by simp; omega)).trans GA.out.2.2.1)) (And.intro ((hbwB.block X14 (by omega)).trans ((hK2.block X14 (by omega) (by simp; omega)).trans GA.out.2.2.2.1)) (And.intro (ownsRow_kept (ownsRow_kp GA.out.2.2.2.2 hK2 (by omega)) hbwB) (And.intro hxwB (hE15.kept hbwB)))))))
        have zB : T3 < wB.heap.size := by have := hbwB.size; omega
        have l14 : X14 < wB.heap.size := by have := hbwB.size; omega
        have lo15 : X14 < X15 := by omega
        clear hE15 hP2 hK2 hbwB hxwB hwwB GA BA hBA
        have PT3 : TpIs wB (T3 + 1) T3 l (some (l, false)) := tp_new (A := A) (c := cp) (by rw [hn'.out]; exact hb'.out) hBB.out (by omega) (by rw [hn'.out]; exact GB.out.2.2.1)
        have cG := tpLog_any wB (T3 + 1) T3 l _ PT3 (by rw [hn'.out]; omega) (by omega) (by omega)
        obtain ⟨z, hz⟩ : ∃ q, (logS (some (l, false))).1 = q := ⟨_, rfl⟩
        obtain ⟨S3, hS3⟩ : ∃ q, (logS (some (l, false))).2 = q := ⟨_, rfl⟩
        have Dz := Lib.hid (And.intro hz hS3)
        rw [hz, hS3] at cG
        unfold logV at cG
        obtain ⟨u1x, ez1⟩ : ∃ t : ByteArray, sv z.com.book = .string t := ⟨_, rfl⟩
        obtain ⟨u2x, ez2⟩ : ∃ t : ByteArray, sv z.com.name = .string t := ⟨_, rfl⟩
        obtain ⟨u3x, ez3⟩ : ∃ t : ByteArray, sv z.com.data = .string t := ⟨_, rfl⟩
        obtain ⟨u4x, ez4⟩ : ∃ t : ByteArray, sv z.com.mat = .string t := ⟨_, rfl⟩
        obtain ⟨u5x, ez5⟩ : ∃ t : ByteArray, sv z.com.non = .string t := ⟨_, rfl⟩
        obtain ⟨u6x, ez6⟩ : ∃ t : ByteArray, sv z.com.tok = .string t := ⟨_, rfl⟩
        rw [ez1, ez2, ez3, ez4, ez5, ez6] at cG
        have Yz := Lib.hid (And.intro ez1 (And.intro ez2 (And.intro ez3 (And.intro ez4 (And.intro ez5 (ez6))))))
        clear hz hS3 ez1 ez2 ez3 ez4 ez5 ez6 PT3
        go_wp2_with fail
        go_at_call 15
        refine cG.mono ?_
        rintro e w17 ⟨nv16, ds16, rfl, hE16, hF16, hP3, hK3⟩
        obtain ⟨a16, b16x, o16, k16, rfl, -, -, -, -⟩ := id hE16
        obtain ⟨b16, c16x, p16, j16, rfl, -, -, -, -⟩ := id hF16
        obtain ⟨n16, hn16⟩ : ∃ q, z.com.names.length = q := ⟨_, rfl⟩
        obtain ⟨m16, hm16⟩ : ∃ q, z.nodes.length = q := ⟨_, rfl⟩
        rw [hn16] at hE16 ⊢
        rw [hm16] at hF16 ⊢
        have N16 := Lib.hid (And.intro hn16 hm16)
        clear cG hn16 hm16
        go_upto_region 18 with fail
        obtain ⟨wZ, hwwZ⟩ : ∃ q0, w17.alloc (.cells #[.int .i64 z.term, .int .i64 z.kind, .int .i64 z.com.op, .string u1x, .string u2x, .string u3x, .string u4x, .string u5x, .string u6x, .slice a16 n16 k16, .int .i64 z.com.pos, .int .i64 z.com.ses, .int .i64 z.com.seq, .slice b16 m16 j16] 39) = q0 := ⟨_, rfl⟩
        have hbwZ : Below w17.heap.size w17 wZ := by rw [← hwwZ]; exact below_one _ _
        have hxwZ : wZ.heap[w17.heap.size]? = some (.cells #[.int .i64 z.term, .int .i64 z.kind, .int .i64 z.com.op, .string u1x, .string u2x, .string u3x, .string u4x, .string u5x, .string u6x, .slice a16 n16 k16, .int .i64 z.com.pos, .int .i64 z.com.ses, .int .i64 z.com.seq, .slice b16 m16 j16] 39 (0, 0)) := by rw [← hwwZ]; exact heap_alloc_new w17 _
        rw [hwwZ]
        obtain ⟨X16, hXX16⟩ : ∃ q0, w17.heap.size = q0 := ⟨_, rfl⟩
        rw [hXX16] at hxwZ ⊢
        have lX16 := (Array.getElem?_eq_some_iff.1 hxwZ).1
        have mX16 : w17.heap.size ≤ X16 := by omega
        have hk3s := hK3.size
        have BZ := Lib.hid (((hK3.below BB.out (fun j hj => by have : j = T3 := (by simpa using hj); omega) (by omega)).trans (hbwZ.mono (by omega))))
        have hBZ := Lib.hid ((hK3.below hBB.out (fun j hj => by have : j = T3 := (by simpa using hj); omega) hBB.out.size).trans (hbwZ.mono (by have := hBB.out.size; omega)))
        have GZ := Lib.hid (And.intro ((GB.out.1.frame hk3s (fun j hj => hK3.block j (by omega) (by simp; omega))).kept hbwZ) (And.intro ((GB.out.2.1.frame hk3s (fun j hj => hK3.block j (by omega) (by simp; omega))).kept hbwZ) (And.intro (hP3.kept hbwZ) (And.intro ((hbwZ.block X14 (by omega)).trans ((hK3.block X14 (by omega) (by simp; omega)).trans GB.out.2.2.2.1)) (And.intro (ownsRow_kept (ownsRow_kp GB.out.2.2.2.2.1 hK3 (by omega)) hbwZ) (And.intro ((hbwZ.block X15 (by omega)).trans ((hK3.block X15 (by omega) (by simp; omega)).trans GB.out.2.2.2.2.2.1)) (And.intro ((ents_besides GB.out.2.2.2.2.2.2 GB.out.2.2.1 hK3).kept hbwZ) (And.intro hxwZ (And.intro (hE16.kept hbwZ) (hF16.kept hbwZ))))))))))
        have l14z : X14 < wZ.heap.size := by have := hbwZ.size; omega
        have l15z : X15 < wZ.heap.size := by have := hbwZ.size; omega
        clear hE16 hF16 hP3 hK3 hbwZ hxwZ hwwZ GB BB hBB
        have zLw := zL
        have zz : wL.heap.size ≤ wZ.heap.size := by rw [hT1]; have := BZ.out.size; omega
        have hZ : ∀ W, Below wZ.heap.size wZ W → Below T1 wL W := fun W h => BZ.out.trans (h.mono (by omega))
        have lX4L : X4 < T1 := by omega
        have lX6L : X6 < T1 := by omega
        have lX8L : X8 < T1 := by omega
        have Q4 := Lib.hid fun (W : World) (h : Below wZ.heap.size wZ W) => And.intro (((hZ W h).block X4 lX4L).trans GL.out.1) (strs_of (ownsRow_kept GL.out.2.1 (by rw [hT1]; exact hZ W h)) N4.out)
        have Q6 := Lib.hid fun (W : World) (h : Below wZ.heap.size wZ W) => And.intro (((hZ W h).block X6 lX6L).trans GL.out.2.2.1) (ents_of (ownsRow_kept GL.out.2.2.2.1 (by rw [hT1]; exact hZ W h)) N6.out)
        have Q8 := Lib.hid fun (W : World) (h : Below wZ.heap.size wZ W) => And.intro (((hZ W h).block X8 lX8L).trans GL.out.2.2.2.2.1) (And.intro (strs_of (ownsRow_kept GL.out.2.2.2.2.2.1 (by rw [hT1]; exact hZ W h)) N8.out.1) (ints_of (ownsRow_kept GL.out.2.2.2.2.2.2 (by rw [hT1]; exact hZ W h)) N8.out.2))
        have Q14 := Lib.hid fun (W : World) (h : Below wZ.heap.size wZ W) => And.intro ((h.block X14 l14z).trans GZ.out.2.2.2.1) (strs_of (ownsRow_kept GZ.out.2.2.2.2.1 h) N14.out)
        have Q15 := Lib.hid fun (W : World) (h : Below wZ.heap.size wZ W) => And.intro ((h.block X15 l15z).trans GZ.out.2.2.2.2.2.1) (GZ.out.2.2.2.2.2.2.1.kept h)
        have Q16 := Lib.hid fun (W : World) (h : Below wZ.heap.size wZ W) => And.intro ((h.block X16 lX16).trans GZ.out.2.2.2.2.2.2.2.1) (And.intro (GZ.out.2.2.2.2.2.2.2.2.1.kept h) (GZ.out.2.2.2.2.2.2.2.2.2.kept h))
        have QT := Lib.hid fun (W : World) (h : Below wZ.heap.size wZ W) => And.intro (GZ.out.1.kept h) (And.intro (GZ.out.2.1.kept h) (GZ.out.2.2.1.kept h))
        have QB := Lib.hid fun (W : World) (h : Below wZ.heap.size wZ W) => And.intro (hb'.out.kept (hBZ.out.trans (h.mono hBZ.out.size))) (hBZ.out.trans (h.mono hBZ.out.size))
        have sE1 : endS S1 = E1 := by rw [← Dc.out.2, ← Dx.out.2]; exact (got_end comS com0 l).symm
        have sE2 : endS S2 = E2 := by rw [← Dr.out.2, ← Dy.out.2]; exact (got_end repS rep0 l).symm
        have sE3 : endS S3 = E3 := by rw [← Dg.out.2, ← Dz.out.2]; exact (got_end logS lg0 l).symm
        have en1 := Lib.hid fun (W : World) (h : Below wZ.heap.size wZ W) => tpEnd_any W _ T1 l S1 (QT.out W h).1 (by rw [hn'.out]; omega)
        have en2 := Lib.hid fun (W : World) (h : Below wZ.heap.size wZ W) => tpEnd_any W _ T2 l S2 (QT.out W h).2.1 (by rw [hn'.out]; omega)
        have en3 := Lib.hid fun (W : World) (h : Below wZ.heap.size wZ W) => tpEnd_any W _ T3 l S3 (QT.out W h).2.2 (by rw [hn'.out]; omega)
        rw [sE1] at en1
        rw [sE2] at en2
        rw [sE3] at en3
        have nE1 : ((E1 : Int) != (E1 : Int)) = false := by simp
        have nE2 : ((E2 : Int) != (E2 : Int)) = false := by simp
        have nE3 : ((E3 : Int) != (E3 : Int)) = false := by simp
        clear hZ sE1 sE2 sE3 zz
        go_wp2_with fail
        go_at_call 16
        refine (en1.out _ (Below.refl _ _)).mono ?_
        rintro e wa ⟨rfl, hba⟩
        go_wp2_with fail
        go_at_call 16
        refine (en2.out _ hba).mono ?_
        rintro e wb ⟨rfl, hbb⟩
        have hbab := hba.trans (hbb.mono hba.size)
        go_wp2_with fail
        go_at_call 16
        refine (en3.out _ hbab).mono ?_
        rintro e wd ⟨rfl, hbd⟩
        have hbZd := Lib.hid (hbab.trans (hbd.mono hbab.size))
        clear hba hbb hbab hbd en1 en2 en3
        go_upto_region 20 with fail
        obtain ⟨be, hbe⟩ : ∃ b, decide ((E1 : Int) = 0) = b := ⟨_, rfl⟩
        obtain ⟨bf, hbf⟩ : ∃ b, decide ((E2 : Int) = 0) = b := ⟨_, rfl⟩
        obtain ⟨bg, hbg⟩ : ∃ b, decide ((E3 : Int) = 0) = b := ⟨_, rfl⟩
        have hbe' := Lib.hid hbe
        have hbf' := Lib.hid hbf
        have hbg' := Lib.hid hbg
        obtain ⟨sr, hsr⟩ : ∃ q : ByteArray, (⟨(repB rep0).toArray⟩ : ByteArray) = q := ⟨_, rfl⟩
        have hzd : ∀ W, Below wd.heap.size wd W → Below wZ.heap.size wZ W := fun W h => hbZd.out.trans (h.mono hbZd.out.size)
        have c0 : (!be) = true → c = com0 := fun h => by
          rw [← Dc.out.1]
          refine got_zero (fun e => ?_)
          rw [Dc.out.2] at e
          rw [e] at hbe
          subst hbe
          cases h
        have r0 : (!bf) = true → r = rep0 := fun h => by
          rw [← Dr.out.1]
          refine got_zero (fun e => ?_)
          rw [Dr.out.2] at e
          rw [e] at hbf
          subst hbf
          cases h
        have g0 : (!bg) = true → g = lg0 := fun h => by
          rw [← Dg.out.1]
          refine got_zero (fun e => ?_)
          rw [Dg.out.2] at e
          rw [e] at hbg
          subst hbg
          cases h
        have zC := Lib.hid fun (W : World) (hW : Below wd.heap.size wd W) (hw : (!be) = true) => show Calls Try.prog 17 #[.agg #[.int .i64 c.op, .string y1, .string y2, .string y3, .string y4, .string y5, .string y6, .slice a4 n4 k4, .int .i64 c.pos, .int .i64 c.ses, .int .i64 c.seq]] W fun e w' => (∃ q, e = .returned q ∧ F20 E1 E2 E3 be bf bg (.agg #[.int .i64 c.op, .string y1, .string y2, .string y3, .string y4, .string y5, .string y6, .slice a4 n4 k4, .int .i64 c.pos, .int .i64 c.ses, .int .i64 c.seq]) (.agg #[.int .i64 r.st, .int .i64 r.tag, .string z1, .slice a6 n6 k6, .string z2]) (.agg #[.int .i64 g.com.op, .string l1, .string l2, .string l3, .string l4, .string l5, .string l6, .slice a8 n8 k8, .int .i64 g.com.pos, .int .i64 g.com.ses, .int .i64 g.com.seq]) X8 b8 j8 sr (repB rep0) 4 q w') ∧ Below W.heap.size W w' from by
          have h := Cd.refZero_any W c (.slice a4 n4 k4) (Q4.out W (hzd W hW)).2 (by rw [c0 hw]; decide)
          unfold comV comC at h
          rw [Yc.out.1, Yc.out.2.1, Yc.out.2.2.1, Yc.out.2.2.2.1, Yc.out.2.2.2.2.1, Yc.out.2.2.2.2.2] at h
          refine h.mono ?_
          rintro e w' ⟨rfl, hb⟩
          exact ⟨⟨_, rfl, fun _ => by rw [decide_eq_true (c0 hw)]⟩, hb⟩
        have zR := Lib.hid fun (W : World) (hW : Below wd.heap.size wd W) (hw : (!bf) = true) => show Calls Try.prog 18 #[.agg #[.int .i64 r.st, .int .i64 r.tag, .string z1, .slice a6 n6 k6, .string z2]] W fun e w' => (∃ q, e = .returned q ∧ F20 E1 E2 E3 be bf bg (.agg #[.int .i64 c.op, .string y1, .string y2, .string y3, .string y4, .string y5, .string y6, .slice a4 n4 k4, .int .i64 c.pos, .int .i64 c.ses, .int .i64 c.seq]) (.agg #[.int .i64 r.st, .int .i64 r.tag, .string z1, .slice a6 n6 k6, .string z2]) (.agg #[.int .i64 g.com.op, .string l1, .string l2, .string l3, .string l4, .string l5, .string l6, .slice a8 n8 k8, .int .i64 g.com.pos, .int .i64 g.com.ses, .int .i64 g.com.seq]) X8 b8 j8 sr (repB rep0) 12 q w') ∧ Below W.heap.size W w' from by
          have h := Cd.refReply_any W r (.slice a6 n6 k6) (Q6.out W (hzd W hW)).2 (by rw [r0 hw]; simp [rep0, flatN])
          unfold repV at h
          rw [Yr.out.1, Yr.out.2] at h
          refine h.mono ?_
          rintro e w' ⟨u, rfl, hu, hb⟩
          exact ⟨⟨_, rfl, fun _ => ⟨_, by rw [← r0 hw]; exact hu⟩⟩, hb⟩
        have zR0 := Lib.hid fun (W : World) (hW : Below wd.heap.size wd W) (hw : (!bf) = true) => show Calls Try.prog 18 #[.agg #[.int .i64 0, .int .i64 0, .string ⟨#[]⟩, .slice none 0 0, .string ⟨#[]⟩]] W fun e w' => (∃ q, e = .returned q ∧ F20 E1 E2 E3 be bf bg (.agg #[.int .i64 c.op, .string y1, .string y2, .string y3, .string y4, .string y5, .string y6, .slice a4 n4 k4, .int .i64 c.pos, .int .i64 c.ses, .int .i64 c.seq]) (.agg #[.int .i64 r.st, .int .i64 r.tag, .string z1, .slice a6 n6 k6, .string z2]) (.agg #[.int .i64 g.com.op, .string l1, .string l2, .string l3, .string l4, .string l5, .string l6, .slice a8 n8 k8, .int .i64 g.com.pos, .int .i64 g.com.ses, .int .i64 g.com.seq]) X8 b8 j8 sr (repB rep0) 15 q w') ∧ Below W.heap.size W w' from by
          have h := Cd.refReply_any W rep0 (.slice none 0 0) (RowsAt.nil W) (by simp [rep0, flatN])
          refine h.mono ?_
          rintro e w' ⟨u, rfl, hu, hb⟩
          exact ⟨⟨_, rfl, fun _ => ⟨_, hu⟩⟩, hb⟩
        have zG := Lib.hid fun (W : World) (hW : Below wd.heap.size wd W) (hw : (!bg) = true) => show Calls Try.prog 17 #[.agg #[.int .i64 g.com.op, .string l1, .string l2, .string l3, .string l4, .string l5, .string l6, .slice a8 n8 k8, .int .i64 g.com.pos, .int .i64 g.com.ses, .int .i64 g.com.seq]] W fun e w' => (∃ q, e = .returned q ∧ F20 E1 E2 E3 be bf bg (.agg #[.int .i64 c.op, .string y1, .string y2, .string y3, .string y4, .string y5, .string y6, .slice a4 n4 k4, .int .i64 c.pos, .int .i64 c.ses, .int .i64 c.seq]) (.agg #[.int .i64 r.st, .int .i64 r.tag, .string z1, .slice a6 n6 k6, .string z2]) (.agg #[.int .i64 g.com.op, .string l1, .string l2, .string l3, .string l4, .string l5, .string l6, .slice a8 n8 k8, .int .i64 g.com.pos, .int .i64 g.com.ses, .int .i64 g.com.seq]) X8 b8 j8 sr (repB rep0) 26 q w') ∧ Below W.heap.size W w' from by
          have h := Cd.refZero_any W g.com (.slice a8 n8 k8) (Q8.out W (hzd W hW)).2.1 (by rw [g0 hw]; decide)
          unfold comV comC at h
          rw [Yg.out.1, Yg.out.2.1, Yg.out.2.2.1, Yg.out.2.2.2.1, Yg.out.2.2.2.2.1, Yg.out.2.2.2.2.2] at h
          refine h.mono ?_
          rintro e w' ⟨rfl, hb⟩
          exact ⟨⟨_, rfl, fun _ => by rw [decide_eq_true (show g.com = com0 by rw [g0 hw]; rfl)]⟩, hb⟩
        have gI := Lib.hid fun (W : World) (hW : Below wd.heap.size wd W) (hw : (!bg) = true) (q : Nat) => show (Instr.loadAt 3 (.pointer (some ⟨X8, 0, none⟩))).run Try.prog W = .ok (.int .i64 0) W from by
          have h := Lib.cell_of_heap (Q8.out W (hzd W hW)).1 0
          have h2 : W.cell? ⟨X8, 0, none⟩ = some (.int .i64 0) := by rw [h]; show some (Value.int .i64 g.term) = _; rw [g0 hw]; rfl
          clear h
          go_simp
        have gK := Lib.hid fun (W : World) (hW : Below wd.heap.size wd W) (hw : (!bg) = true) => show (Instr.loadAt 36 (.pointer (some ⟨X8, 1, none⟩))).run Try.prog W = .ok (.int .i64 0) W from by
          have h := Lib.cell_of_heap (Q8.out W (hzd W hW)).1 1
          have h2 : W.cell? ⟨X8, 1, none⟩ = some (.int .i64 0) := by rw [h]; show some (Value.int .i64 g.kind) = _; rw [g0 hw]; rfl
          clear h
          go_simp
        have gN := Lib.hid fun (W : World) (hW : Below wd.heap.size wd W) (hw : (!bg) = true) => show (Instr.loadAt 37 (.pointer (some ⟨X8, 13, none⟩))).run Try.prog W = .ok (.slice b8 0 j8) W from by
          have h := Lib.cell_of_heap (Q8.out W (hzd W hW)).1 13
          have hm : m8 = 0 := by rw [← N8.out.2, g0 hw]; rfl
          have h2 : W.cell? ⟨X8, 13, none⟩ = some (.slice b8 0 j8) := by rw [h, ← hm]; rfl
          clear h
          go_simp
        go_cut [132] from 87 to 131 (fun sv wx => sv = .bool false ∧ Hid (Below wZ.heap.size wZ wx))
        case first =>
          rename_i J K' hJ2 hK'
          refine Rg.region_monoGA (by kernel_rfl) [87, 88, 89, 90, 91, 92, 93, 94, 95, 96, 97, 98, 99, 100, 101, 102, 103, 104, 105, 106, 107, 108, 109, 110, 111, 112, 113, 114, 115, 116, 117, 118, 119, 120, 121, 122, 123, 124, 125, 126, 127, 128, 129, 130, 131, 132] (by decide) (by kernel_rfl) rfl (by kernel_rfl) rfl (F20 E1 E2 E3 be bf bg (.agg #[.int .i64 c.op, .string y1, .string y2, .string y3, .string y4, .string y5, .string y6, .slice a4 n4 k4, .int .i64 c.pos, .int .i64 c.ses, .int .i64 c.seq]) (.agg #[.int .i64 r.st, .int .i64 r.tag, .string z1, .slice a6 n6 k6, .string z2]) (.agg #[.int .i64 g.com.op, .string l1, .string l2, .string l3, .string l4, .string l5, .string l6, .slice a8 n8 k8, .int .i64 g.com.pos, .int .i64 g.com.ses, .int .i64 g.com.seq]) X8 b8 j8 sr (repB rep0)) (F20_mono E1 E2 E3 be bf bg (.agg #[.int .i64 c.op, .string y1, .string y2, .string y3, .string y4, .string y5, .string y6, .slice a4 n4 k4, .int .i64 c.pos, .int .i64 c.ses, .int .i64 c.seq]) (.agg #[.int .i64 r.st, .int .i64 r.tag, .string z1, .slice a6 n6 k6, .string z2]) (.agg #[.int .i64 g.com.op, .string l1, .string l2, .string l3, .string l4, .string l5, .string l6, .slice a8 n8 k8, .int .i64 g.com.pos, .int .i64 g.com.ses, .int .i64 g.com.seq]) X8 b8 j8 sr (repB rep0)) (wF20 be bf bg) ?_ ?_
          · intro Q' a' ho
            have o4 : a'.eval (.tmp 4) = .pointer (some ⟨X4, 0, none⟩) := ho 4
            have o5 : a'.eval (.tmp 5) = .int .i64 (E1 : Int) := ho 5
            have o6 : a'.eval (.tmp 6) = .pointer (some ⟨X6, 0, none⟩) := ho 6
            have o7 : a'.eval (.tmp 7) = .int .i64 (E2 : Int) := ho 7
            have o8 : a'.eval (.tmp 8) = .pointer (some ⟨X8, 0, none⟩) := ho 8
            have o9 : a'.eval (.tmp 9) = .int .i64 (E3 : Int) := ho 9
            clear ho hJ2 hK'
            refine ⟨?_, ?_, ?_, ?_, ?_, ?_, ?_, ?_, ?_, ?_, ?_, ?_, ?_, ?_, ?_, ?_, ?_, ?_, ?_, ?_, ?_, ?_, ?_, ?_, ?_, ?_, ?_, ?_, ?_, ?_, ?_, ?_, ?_, ?_, ?_, ?_, ?_, ?_, ?_, ?_, ?_, ?_, ?_, ?_, ?_, ?_, trivial⟩
            · show MonoGAt _ _ _ _ _ _ _ 0 _
              exact .plain rfl rfl (bMvOld rfl (by decide) (.int .i64 (E1 : Int)) o5 (fun _ _ => rfl))
            · show MonoGAt _ _ _ _ _ _ _ 1 _
              exact .plain rfl rfl (bNe0b rfl (k := 0) (by decide) rfl ((E1 : Int)) (fun _ _ h => h) Try.underlying28 hbe (fun _ => rfl))
            · show MonoGAt _ _ _ _ _ _ _ 2 _
              exact .plain rfl rfl (bMvNew rfl (k := 1) (by decide) rfl (fun _ _ h => h))
            · show MonoGAt _ _ _ _ _ _ _ 3 _
              exact heldN rfl (by decide) (fun _ _ h => h) rfl (fun hw => bLdOld rfl (by decide) ⟨X4, 0, none⟩ _ o4 (fun W hW => ld_com (Q4.out W (hzd W hW)).1) (fun _ _ _ => rfl)) (fun e _ => vac e)
            · show MonoGAt _ _ _ _ _ _ _ 4 _
              exact heldN rfl (by decide) (fun _ _ h => h) rfl (fun hw => bCallV rfl (k := 3) (by decide) rfl cf_zero (.agg #[.int .i64 c.op, .string y1, .string y2, .string y3, .string y4, .string y5, .string y6, .slice a4 n4 k4, .int .i64 c.pos, .int .i64 c.ses, .int .i64 c.seq]) (fun _ _ h => h hw) (fun W hW => zC.out W hW hw)) (fun e _ => vac e)
            · show MonoGAt _ _ _ _ _ _ _ 5 _
              exact heldN rfl (by decide) (fun _ _ h => h) rfl (fun hw => bNot rfl (k := 4) (by decide) rfl true (fun _ _ h => h hw) (fun _ _ => rfl)) (fun e _ => vac e)
            · show MonoGAt _ _ _ _ _ _ _ 6 _
              exact .plain rfl rfl (bAndF rfl (k := 2) (k' := 5) (by decide) rfl (by decide) rfl (!be) (fun _ _ h => h) (fun hw _ _ h => h hw) (fun _ => rfl))
            · show MonoGAt _ _ _ _ _ _ _ 7 _
              exact .plain rfl rfl (bMvNew rfl (k := 6) (by decide) rfl (fun _ _ h => h))
            · show MonoGAt _ _ _ _ _ _ _ 8 _
              exact heldF rfl (by decide) (fun _ _ h => h) rfl (bMvOld rfl (by decide) (.int .i64 (E2 : Int)) o7 (fun _ _ => rfl))
            · show MonoGAt _ _ _ _ _ _ _ 9 _
              exact heldF rfl (by decide) (fun _ _ h => h) rfl (bNe0b rfl (k := 8) (by decide) rfl ((E2 : Int)) (fun _ _ h => h) Try.underlying28 hbf (fun _ => rfl))
            · show MonoGAt _ _ _ _ _ _ _ 10 _
              exact heldF rfl (by decide) (fun _ _ h => h) rfl (bMvNew rfl (k := 9) (by decide) rfl (fun _ _ h => h))
            · show MonoGAt _ _ _ _ _ _ _ 11 _
              exact heldN rfl (by decide) (fun _ _ h => h) rfl (fun hw => bLdOld rfl (by decide) ⟨X6, 0, none⟩ _ o6 (fun W hW => ld_rep (Q6.out W (hzd W hW)).1) (fun _ _ _ => rfl)) (fun e _ => vac e)
            · show MonoGAt _ _ _ _ _ _ _ 12 _
              exact heldN rfl (by decide) (fun _ _ h => h) rfl (fun hw => bCallV rfl (k := 11) (by decide) rfl cf_rep (.agg #[.int .i64 r.st, .int .i64 r.tag, .string z1, .slice a6 n6 k6, .string z2]) (fun _ _ h => h hw) (fun W hW => zR.out W hW hw)) (fun e _ => vac e)
            · show MonoGAt _ _ _ _ _ _ _ 13 _
              exact heldN rfl (by decide) (fun _ _ h => h) rfl (fun hw => bConvO rfl (k := 12) (by decide) rfl (.string sr) (G := fun v W => ∃ B, BOwn B v (repB rep0) W) (fun _ _ h => h hw) (fun _ _ h => own_str hsr h) (fun _ _ => rfl)) (fun e _ => vac e)
            · show MonoGAt _ _ _ _ _ _ _ 14 _
              exact heldN rfl (by decide) (fun _ _ h => h) rfl (fun hw => bBldRep rfl (fun _ _ => rfl)) (fun e _ => vac e)
            · show MonoGAt _ _ _ _ _ _ _ 15 _
              exact heldN rfl (by decide) (fun _ _ h => h) rfl (fun hw => bCallV rfl (k := 14) (by decide) rfl cf_rep (.agg #[.int .i64 0, .int .i64 0, .string ⟨#[]⟩, .slice none 0 0, .string ⟨#[]⟩]) (fun _ _ h => h hw) (fun W hW => zR0.out W hW hw)) (fun e _ => vac e)
            · show MonoGAt _ _ _ _ _ _ _ 16 _
              exact heldN rfl (by decide) (fun _ _ h => h) rfl (fun hw => bConvO rfl (k := 15) (by decide) rfl (.string sr) (G := fun v W => ∃ B, BOwn B v (repB rep0) W) (fun _ _ h => h hw) (fun _ _ h => own_str hsr h) (fun _ _ => rfl)) (fun e _ => vac e)
            · show MonoGAt _ _ _ _ _ _ _ 17 _
              exact heldN rfl (by decide) (fun _ _ h => h) rfl (fun hw => bNeS rfl (k := 13) (k' := 16) (by decide) rfl (by decide) rfl sr (fun _ _ h => h hw) (fun _ _ h => h hw) (fun _ _ => rfl)) (fun e _ => vac e)
            · show MonoGAt _ _ _ _ _ _ _ 18 _
              exact heldF rfl (by decide) (fun _ _ h => h) rfl (bAndF rfl (k := 10) (k' := 17) (by decide) rfl (by decide) rfl (!bf) (fun _ _ h => h) (fun hw _ _ h => h hw) (fun _ => rfl))
            · show MonoGAt _ _ _ _ _ _ _ 19 _
              exact .plain rfl rfl (bOr rfl (k := 7) (k' := 18) (by decide) rfl (by decide) rfl false false (fun _ _ h => h) (fun _ _ _ h => h) (fun _ => rfl))
            · show MonoGAt _ _ _ _ _ _ _ 20 _
              exact .plain rfl rfl (bMvNew rfl (k := 19) (by decide) rfl (fun _ _ h => h))
            · show MonoGAt _ _ _ _ _ _ _ 21 _
              exact heldF rfl (by decide) (fun _ _ h => h) rfl (bMvOld rfl (by decide) (.int .i64 (E3 : Int)) o9 (fun _ _ => rfl))
            · show MonoGAt _ _ _ _ _ _ _ 22 _
              exact heldF rfl (by decide) (fun _ _ h => h) rfl (bNe0b rfl (k := 21) (by decide) rfl ((E3 : Int)) (fun _ _ h => h) Try.underlying28 hbg (fun _ => rfl))
            · show MonoGAt _ _ _ _ _ _ _ 23 _
              exact heldF rfl (by decide) (fun _ _ h => h) rfl (bMvNew rfl (k := 22) (by decide) rfl (fun _ _ h => h))
            · show MonoGAt _ _ _ _ _ _ _ 24 _
              exact heldN rfl (by decide) (fun _ _ h => h) rfl (fun hw => bFaOld rfl (by decide) ⟨X8, 0, none⟩ (.pointer (some ⟨X8, 2, none⟩)) o8 (fa_2 X8) (fun _ _ => rfl)) (fun e _ => vac e)
            · show MonoGAt _ _ _ _ _ _ _ 25 _
              exact heldN rfl (by decide) (fun _ _ h => h) rfl (fun hw => bLdNew rfl (k := 24) (by decide) rfl ⟨X8, 2, none⟩ _ (fun _ _ h => h hw) (fun W hW => ld_logcom (Q8.out W (hzd W hW)).1) (fun _ _ _ => rfl)) (fun e _ => vac e)
            · show MonoGAt _ _ _ _ _ _ _ 26 _
              exact heldN rfl (by decide) (fun _ _ h => h) rfl (fun hw => bCallV rfl (k := 25) (by decide) rfl cf_zero (.agg #[.int .i64 g.com.op, .string l1, .string l2, .string l3, .string l4, .string l5, .string l6, .slice a8 n8 k8, .int .i64 g.com.pos, .int .i64 g.com.ses, .int .i64 g.com.seq]) (fun _ _ h => h hw) (fun W hW => zG.out W hW hw)) (fun e _ => vac e)
            · show MonoGAt _ _ _ _ _ _ _ 27 _
              exact heldN rfl (by decide) (fun _ _ h => h) rfl (fun hw => bNot rfl (k := 26) (by decide) rfl true (fun _ _ h => h hw) (fun _ _ => rfl)) (fun e _ => vac e)
            · show MonoGAt _ _ _ _ _ _ _ 28 _
              exact heldN rfl (by decide) (fun _ _ h => h) rfl (fun hw => bMvNew rfl (k := 27) (by decide) rfl (fun _ _ h => Quest.no hw (h hw))) (fun e _ => Quest.undef e)
            · show MonoGAt _ _ _ _ _ _ _ 29 _
              exact heldQ rfl (by decide) (fun _ _ h => h) rfl (fun hw => bFaOld rfl (by decide) ⟨X8, 0, none⟩ (.pointer (some ⟨X8, 0, none⟩)) o8 (fa_0 X8) (fun _ _ => rfl)) (fun e _ => vac e)
            · show MonoGAt _ _ _ _ _ _ _ 30 _
              exact heldQ rfl (by decide) (fun _ _ h => h) rfl (fun hw => bLdNew rfl (k := 29) (by decide) rfl ⟨X8, 0, none⟩ _ (fun _ _ h => h hw) (fun W hW => gI.out W hW hw 0) (fun _ _ _ => rfl)) (fun e _ => vac e)
            · show MonoGAt _ _ _ _ _ _ _ 31 _
              exact heldQ rfl (by decide) (fun _ _ h => h) rfl (fun hw => bNe0b rfl (be := true) (k := 30) (by decide) rfl (0) (fun _ _ h => h hw) Try.underlying3 rfl (fun _ _ => rfl)) (fun e _ => vac e)
            · show MonoGAt _ _ _ _ _ _ _ 32 _
              exact heldN rfl (by decide) (fun _ _ h => h) rfl (fun hw => bOr rfl (k := 28) (k' := 31) (by decide) rfl (by decide) rfl false false (fun _ _ h => Quest.is h hw) (fun _ _ _ h => h hw) (fun _ _ => rfl)) (fun e _ => vac e)
            · show MonoGAt _ _ _ _ _ _ _ 33 _
              exact heldN rfl (by decide) (fun _ _ h => h) rfl (fun hw => bMvNew rfl (k := 32) (by decide) rfl (fun _ _ h => Quest.no hw (h hw))) (fun e _ => Quest.undef e)
            · show MonoGAt _ _ _ _ _ _ _ 34 _
              exact heldQ rfl (by decide) (fun _ _ h => h) rfl (fun hw => bFaOld rfl (by decide) ⟨X8, 0, none⟩ (.pointer (some ⟨X8, 1, none⟩)) o8 (fa_1 X8) (fun _ _ => rfl)) (fun e _ => vac e)
            · show MonoGAt _ _ _ _ _ _ _ 35 _
              exact heldQ rfl (by decide) (fun _ _ h => h) rfl (fun hw => bLdNew rfl (k := 34) (by decide) rfl ⟨X8, 1, none⟩ _ (fun _ _ h => h hw) (fun W hW => gK.out W hW hw) (fun _ _ _ => rfl)) (fun e _ => vac e)
            · show MonoGAt _ _ _ _ _ _ _ 36 _
              exact heldQ rfl (by decide) (fun _ _ h => h) rfl (fun hw => bNe0b rfl (be := true) (k := 35) (by decide) rfl (0) (fun _ _ h => h hw) Try.underlying36 rfl (fun _ _ => rfl)) (fun e _ => vac e)
            · show MonoGAt _ _ _ _ _ _ _ 37 _
              exact heldN rfl (by decide) (fun _ _ h => h) rfl (fun hw => bOr rfl (k := 33) (k' := 36) (by decide) rfl (by decide) rfl false false (fun _ _ h => Quest.is h hw) (fun _ _ _ h => h hw) (fun _ _ => rfl)) (fun e _ => vac e)
            · show MonoGAt _ _ _ _ _ _ _ 38 _
              exact heldN rfl (by decide) (fun _ _ h => h) rfl (fun hw => bMvNew rfl (k := 37) (by decide) rfl (fun _ _ h => Quest.no hw (h hw))) (fun e _ => Quest.undef e)
            · show MonoGAt _ _ _ _ _ _ _ 39 _
              exact heldQ rfl (by decide) (fun _ _ h => h) rfl (fun hw => bFaOld rfl (by decide) ⟨X8, 0, none⟩ (.pointer (some ⟨X8, 13, none⟩)) o8 (fa_13 X8) (fun _ _ => rfl)) (fun e _ => vac e)
            · show MonoGAt _ _ _ _ _ _ _ 40 _
              exact heldQ rfl (by decide) (fun _ _ h => h) rfl (fun hw => bLdNew rfl (k := 39) (by decide) rfl ⟨X8, 13, none⟩ _ (fun _ _ h => h hw) (fun W hW => gN.out W hW hw) (fun _ _ _ => rfl)) (fun e _ => vac e)
            · show MonoGAt _ _ _ _ _ _ _ 41 _
              exact heldQ rfl (by decide) (fun _ _ h => h) rfl (fun hw => bLen rfl (k := 40) (by decide) rfl b8 0 j8 (fun _ _ h => h hw) (len_sl b8 0 j8) (fun _ _ => rfl)) (fun e _ => vac e)
            · show MonoGAt _ _ _ _ _ _ _ 42 _
              exact heldQ rfl (by decide) (fun _ _ h => h) rfl (fun hw => bNe0b rfl (be := true) (k := 41) (by decide) rfl (((0 : Nat) : Int)) (fun _ _ h => h hw) Try.underlying3 rfl (fun _ _ => rfl)) (fun e _ => vac e)
            · show MonoGAt _ _ _ _ _ _ _ 43 _
              exact heldN rfl (by decide) (fun _ _ h => h) rfl (fun hw => bOr rfl (k := 38) (k' := 42) (by decide) rfl (by decide) rfl false false (fun _ _ h => Quest.is h hw) (fun _ _ _ h => h hw) (fun _ _ => rfl)) (fun e _ => vac e)
            · show MonoGAt _ _ _ _ _ _ _ 44 _
              exact heldF rfl (by decide) (fun _ _ h => h) rfl (bAndF rfl (k := 23) (k' := 43) (by decide) rfl (by decide) rfl (!bg) (fun _ _ h => h) (fun hw _ _ h => h hw) (fun _ => rfl))
            · show MonoGAt _ _ _ _ _ _ _ 45 _
              exact .plain rfl rfl (bOr rfl (k := 20) (k' := 44) (by decide) rfl (by decide) rfl false false (fun _ _ h => h) (fun _ _ _ h => h) (fun _ => rfl))
        
          · intro u W hW hu
            have r1 : u 132 = .bool false := hu 45 132 rfl
            clear hu
            show K' _ _
            refine hK' _ _ (Met.intro (hJ2 _ _ ?_))
            unfold Rg.puts
            simp only [List.foldl_cons, List.foldl_nil, Act.put, List.setIfInBounds_toArray, List.set_cons_succ, List.set_cons_zero]
            repeat apply Exists.intro
            refine ⟨?rel2, rfl⟩
            exact ⟨r1, Lib.hid (hzd W hW)⟩
        case rest =>
          obtain ⟨rfl, hbE⟩ := hcut
          obtain ⟨wE, rfl⟩ : ∃ q, q = wc := ⟨_, rfl⟩
          clear zC zR zR0 zG gI gK gN hsr hzd
          go_upto_region 22 with fail
          have h5' : n ≤ 50000 := Nat.le_of_not_lt h5
          obtain ⟨st, hst⟩ : ∃ q : ByteArray, (⟨l.toArray⟩ : ByteArray) = q := ⟨_, rfl⟩
          have hzE : ∀ W, Below wE.heap.size wE W → Below wZ.heap.size wZ W := fun W h => hbE.out.trans (h.mono hbE.out.size)
          have kT := Lib.hid fun (W : World) (hW : Below wE.heap.size wE W) => show (convert 22 9 (.slice A n cp)).run Try.prog W = .ok (.string st) W from by rw [← hst]; exact conv_bts (QB.out W (hzE W hW)).1
          have qc : be = true → comB c = l := fun h => by
            have e0 := Dc.out.2
            have h0 := of_decide_eq_true (hbe.trans h)
            rw [show E1 = 0 by omega] at e0
            have k := got_comB e0
            rw [Dc.out.1] at k
            exact k.1
          have qx : be = true → comB x = l := fun h => by
            have e0 := Dc.out.2
            have h0 := of_decide_eq_true (hbe.trans h)
            rw [show E1 = 0 by omega] at e0
            have k := got_comB e0
            rw [Dx.out.1] at k
            exact k.2
          have qr : bf = true → repB r = l := fun h => by
            have e0 := Dr.out.2
            have h0 := of_decide_eq_true (hbf.trans h)
            rw [show E2 = 0 by omega] at e0
            have k := got_repB e0
            rw [Dr.out.1] at k
            exact k.1
          have qy : bf = true → repB y = l := fun h => by
            have e0 := Dr.out.2
            have h0 := of_decide_eq_true (hbf.trans h)
            rw [show E2 = 0 by omega] at e0
            have k := got_repB e0
            rw [Dy.out.1] at k
            exact k.2
          have z4 := Lib.hid fun (W : World) (hW : Below wE.heap.size wE W) (hw : be = true) => show Calls Try.prog 19 #[.agg #[.int .i64 c.op, .string y1, .string y2, .string y3, .string y4, .string y5, .string y6, .slice a4 n4 k4, .int .i64 c.pos, .int .i64 c.ses, .int .i64 c.seq]] W fun e w' => (∃ q, e = .returned q ∧ F22 E1 E2 be bf (.slice A n cp) (.agg #[.int .i64 c.op, .string y1, .string y2, .string y3, .string y4, .string y5, .string y6, .slice a4 n4 k4, .int .i64 c.pos, .int .i64 c.ses, .int .i64 c.seq]) (.agg #[.int .i64 r.st, .int .i64 r.tag, .string z1, .slice a6 n6 k6, .string z2]) (.agg #[.int .i64 x.op, .string x1, .string x2, .string x3, .string x4, .string x5, .string x6, .slice a14 n14 k14, .int .i64 x.pos, .int .i64 x.ses, .int .i64 x.seq]) (.agg #[.int .i64 y.st, .int .i64 y.tag, .string v1, .slice a15 n15 k15, .string v2]) st l 4 q w') ∧ Below W.heap.size W w' from by
            have h := Cd.refCommand_any W c (.slice a4 n4 k4) (Q4.out W (hzE W hW)).2 (com_bd (qc hw) hn'.out h5')
            unfold comV comC at h
            rw [Yc.out.1, Yc.out.2.1, Yc.out.2.2.1, Yc.out.2.2.2.1, Yc.out.2.2.2.2.1, Yc.out.2.2.2.2.2, qc hw] at h
            refine h.mono ?_
            rintro e w' ⟨u, rfl, hu, hb⟩
            exact ⟨⟨_, rfl, fun _ => ⟨_, hu⟩⟩, hb⟩
          have z14 := Lib.hid fun (W : World) (hW : Below wE.heap.size wE W) (hw : be = true) => show Calls Try.prog 19 #[.agg #[.int .i64 x.op, .string x1, .string x2, .string x3, .string x4, .string x5, .string x6, .slice a14 n14 k14, .int .i64 x.pos, .int .i64 x.ses, .int .i64 x.seq]] W fun e w' => (∃ q, e = .returned q ∧ F22 E1 E2 be bf (.slice A n cp) (.agg #[.int .i64 c.op, .string y1, .string y2, .string y3, .string y4, .string y5, .string y6, .slice a4 n4 k4, .int .i64 c.pos, .int .i64 c.ses, .int .i64 c.seq]) (.agg #[.int .i64 r.st, .int .i64 r.tag, .string z1, .slice a6 n6 k6, .string z2]) (.agg #[.int .i64 x.op, .string x1, .string x2, .string x3, .string x4, .string x5, .string x6, .slice a14 n14 k14, .int .i64 x.pos, .int .i64 x.ses, .int .i64 x.seq]) (.agg #[.int .i64 y.st, .int .i64 y.tag, .string v1, .slice a15 n15 k15, .string v2]) st l 11 q w') ∧ Below W.heap.size W w' from by
            have h := Cd.refCommand_any W x (.slice a14 n14 k14) (Q14.out W (hzE W hW)).2 (com_bd (qx hw) hn'.out h5')
            unfold comV comC at h
            rw [Yx.out.1, Yx.out.2.1, Yx.out.2.2.1, Yx.out.2.2.2.1, Yx.out.2.2.2.2.1, Yx.out.2.2.2.2.2, qx hw] at h
            refine h.mono ?_
            rintro e w' ⟨u, rfl, hu, hb⟩
            exact ⟨⟨_, rfl, fun _ => ⟨_, hu⟩⟩, hb⟩
          have z6 := Lib.hid fun (W : World) (hW : Below wE.heap.size wE W) (hw : bf = true) => show Calls Try.prog 18 #[.agg #[.int .i64 r.st, .int .i64 r.tag, .string z1, .slice a6 n6 k6, .string z2]] W fun e w' => (∃ q, e = .returned q ∧ F22 E1 E2 be bf (.slice A n cp) (.agg #[.int .i64 c.op, .string y1, .string y2, .string y3, .string y4, .string y5, .string y6, .slice a4 n4 k4, .int .i64 c.pos, .int .i64 c.ses, .int .i64 c.seq]) (.agg #[.int .i64 r.st, .int .i64 r.tag, .string z1, .slice a6 n6 k6, .string z2]) (.agg #[.int .i64 x.op, .string x1, .string x2, .string x3, .string x4, .string x5, .string x6, .slice a14 n14 k14, .int .i64 x.pos, .int .i64 x.ses, .int .i64 x.seq]) (.agg #[.int .i64 y.st, .int .i64 y.tag, .string v1, .slice a15 n15 k15, .string v2]) st l 23 q w') ∧ Below W.heap.size W w' from by
            have h := Cd.refReply_any W r (.slice a6 n6 k6) (Q6.out W (hzE W hW)).2 (rep_bd (qr hw) hn'.out h5')
            unfold repV at h
            rw [Yr.out.1, Yr.out.2, qr hw] at h
            refine h.mono ?_
            rintro e w' ⟨u, rfl, hu, hb⟩
            exact ⟨⟨_, rfl, fun _ => ⟨_, hu⟩⟩, hb⟩
          have z15 := Lib.hid fun (W : World) (hW : Below wE.heap.size wE W) (hw : bf = true) => show Calls Try.prog 18 #[.agg #[.int .i64 y.st, .int .i64 y.tag, .string v1, .slice a15 n15 k15, .string v2]] W fun e w' => (∃ q, e = .returned q ∧ F22 E1 E2 be bf (.slice A n cp) (.agg #[.int .i64 c.op, .string y1, .string y2, .string y3, .string y4, .string y5, .string y6, .slice a4 n4 k4, .int .i64 c.pos, .int .i64 c.ses, .int .i64 c.seq]) (.agg #[.int .i64 r.st, .int .i64 r.tag, .string z1, .slice a6 n6 k6, .string z2]) (.agg #[.int .i64 x.op, .string x1, .string x2, .string x3, .string x4, .string x5, .string x6, .slice a14 n14 k14, .int .i64 x.pos, .int .i64 x.ses, .int .i64 x.seq]) (.agg #[.int .i64 y.st, .int .i64 y.tag, .string v1, .slice a15 n15 k15, .string v2]) st l 30 q w') ∧ Below W.heap.size W w' from by
            have h := Cd.refReply_any W y (.slice a15 n15 k15) (Q15.out W (hzE W hW)).2 (rep_bd (qy hw) hn'.out h5')
            unfold repV at h
            rw [Yy.out.1, Yy.out.2, qy hw] at h
            refine h.mono ?_
            rintro e w' ⟨u, rfl, hu, hb⟩
            exact ⟨⟨_, rfl, fun _ => ⟨_, hu⟩⟩, hb⟩
          go_cut [170] from 133 to 169 (fun sv wx => sv = .bool false ∧ Hid (Below wZ.heap.size wZ wx))
          case first =>
            rename_i J K' hJ2 hK'
            refine Rg.region_monoGA (by kernel_rfl) [133, 134, 135, 136, 137, 138, 139, 140, 141, 142, 143, 144, 145, 146, 147, 148, 149, 150, 151, 152, 153, 154, 155, 156, 157, 158, 159, 160, 161, 162, 163, 164, 165, 166, 167, 168, 169, 170] (by decide) (by kernel_rfl) rfl (by kernel_rfl) rfl (F22 E1 E2 be bf (.slice A n cp) (.agg #[.int .i64 c.op, .string y1, .string y2, .string y3, .string y4, .string y5, .string y6, .slice a4 n4 k4, .int .i64 c.pos, .int .i64 c.ses, .int .i64 c.seq]) (.agg #[.int .i64 r.st, .int .i64 r.tag, .string z1, .slice a6 n6 k6, .string z2]) (.agg #[.int .i64 x.op, .string x1, .string x2, .string x3, .string x4, .string x5, .string x6, .slice a14 n14 k14, .int .i64 x.pos, .int .i64 x.ses, .int .i64 x.seq]) (.agg #[.int .i64 y.st, .int .i64 y.tag, .string v1, .slice a15 n15 k15, .string v2]) st l) (F22_mono E1 E2 be bf (.slice A n cp) (.agg #[.int .i64 c.op, .string y1, .string y2, .string y3, .string y4, .string y5, .string y6, .slice a4 n4 k4, .int .i64 c.pos, .int .i64 c.ses, .int .i64 c.seq]) (.agg #[.int .i64 r.st, .int .i64 r.tag, .string z1, .slice a6 n6 k6, .string z2]) (.agg #[.int .i64 x.op, .string x1, .string x2, .string x3, .string x4, .string x5, .string x6, .slice a14 n14 k14, .int .i64 x.pos, .int .i64 x.ses, .int .i64 x.seq]) (.agg #[.int .i64 y.st, .int .i64 y.tag, .string v1, .slice a15 n15 k15, .string v2]) st l) (wF22 be bf false) ?_ ?_
            · intro Q' a' ho
              have o0 : a'.eval (.tmp 0) = .slice A n cp := ho 0
              have o4 : a'.eval (.tmp 4) = .pointer (some ⟨X4, 0, none⟩) := ho 4
              have o5 : a'.eval (.tmp 5) = .int .i64 (E1 : Int) := ho 5
              have o6 : a'.eval (.tmp 6) = .pointer (some ⟨X6, 0, none⟩) := ho 6
              have o7 : a'.eval (.tmp 7) = .int .i64 (E2 : Int) := ho 7
              have o14 : a'.eval (.tmp 14) = .pointer (some ⟨X14, 0, none⟩) := ho 14
              have o15 : a'.eval (.tmp 15) = .pointer (some ⟨X15, 0, none⟩) := ho 15
              have hzd := hzE
              clear ho hJ2 hK'
              refine ⟨?_, ?_, ?_, ?_, ?_, ?_, ?_, ?_, ?_, ?_, ?_, ?_, ?_, ?_, ?_, ?_, ?_, ?_, ?_, ?_, ?_, ?_, ?_, ?_, ?_, ?_, ?_, ?_, ?_, ?_, ?_, ?_, ?_, ?_, ?_, ?_, ?_, ?_, trivial⟩
              · show MonoGAt _ _ _ _ _ _ _ 0 _
                exact .plain rfl rfl (bMvOld rfl (by decide) (.int .i64 (E1 : Int)) o5 (fun _ _ => rfl))
              · show MonoGAt _ _ _ _ _ _ _ 1 _
                exact .plain rfl rfl (bEq0b rfl (k := 0) (by decide) rfl ((E1 : Int)) (fun _ _ h => h) Try.underlying28 hbe (fun _ => rfl))
              · show MonoGAt _ _ _ _ _ _ _ 2 _
                exact .plain rfl rfl (bMvNew rfl (k := 1) (by decide) rfl (fun _ _ h => h))
              · show MonoGAt _ _ _ _ _ _ _ 3 _
                exact heldY rfl (by decide) (fun _ _ h => h) rfl (fun hw => bLdOld rfl (by decide) ⟨X4, 0, none⟩ _ o4 (fun W hW => ld_com (Q4.out W (hzd W hW)).1) (fun _ _ _ => rfl)) (fun e _ => vac e)
              · show MonoGAt _ _ _ _ _ _ _ 4 _
                exact heldY rfl (by decide) (fun _ _ h => h) rfl (fun hw => bCallV rfl (k := 3) (by decide) rfl cf_rc (.agg #[.int .i64 c.op, .string y1, .string y2, .string y3, .string y4, .string y5, .string y6, .slice a4 n4 k4, .int .i64 c.pos, .int .i64 c.ses, .int .i64 c.seq]) (fun _ _ h => h hw) (fun W hW => z4.out W hW hw)) (fun e _ => vac e)
              · show MonoGAt _ _ _ _ _ _ _ 5 _
                exact heldY rfl (by decide) (fun _ _ h => h) rfl (fun hw => bConvO rfl (k := 4) (by decide) rfl (.string st) (G := fun v W => ∃ B, BOwn B v (l) W) (fun _ _ h => h hw) (fun _ _ h => own_str hst h) (fun _ _ => rfl)) (fun e _ => vac e)
              · show MonoGAt _ _ _ _ _ _ _ 6 _
                exact heldY rfl (by decide) (fun _ _ h => h) rfl (fun hw => bMvOld rfl (by decide) (.slice A n cp) o0 (fun _ _ _ => rfl)) (fun e _ => vac e)
              · show MonoGAt _ _ _ _ _ _ _ 7 _
                exact heldY rfl (by decide) (fun _ _ h => h) rfl (fun hw => bConvT rfl (k := 6) (by decide) rfl (.string st) (.slice A n cp) (fun _ _ h => h hw) (fun W hW => kT.out W hW) (fun _ _ => rfl)) (fun e _ => vac e)
              · show MonoGAt _ _ _ _ _ _ _ 8 _
                exact heldY rfl (by decide) (fun _ _ h => h) rfl (fun hw => bNeS rfl (k := 5) (k' := 7) (by decide) rfl (by decide) rfl st (fun _ _ h => h hw) (fun _ _ h => h hw) (fun _ _ => rfl)) (fun e _ => vac e)
              · show MonoGAt _ _ _ _ _ _ _ 9 _
                exact heldY rfl (by decide) (fun _ _ h => h) rfl (fun hw => bMvNew rfl (k := 8) (by decide) rfl (fun _ _ h => Quest.no hw (h hw))) (fun e _ => Quest.undef e)
              · show MonoGAt _ _ _ _ _ _ _ 10 _
                exact heldQ rfl (by decide) (fun _ _ h => h) rfl (fun hw => bLdOld rfl (by decide) ⟨X14, 0, none⟩ _ o14 (fun W hW => ld_com (Q14.out W (hzd W hW)).1) (fun _ _ _ => rfl)) (fun e _ => vac e)
              · show MonoGAt _ _ _ _ _ _ _ 11 _
                exact heldQ rfl (by decide) (fun _ _ h => h) rfl (fun hw => bCallV rfl (k := 10) (by decide) rfl cf_rc (.agg #[.int .i64 x.op, .string x1, .string x2, .string x3, .string x4, .string x5, .string x6, .slice a14 n14 k14, .int .i64 x.pos, .int .i64 x.ses, .int .i64 x.seq]) (fun _ _ h => h hw) (fun W hW => z14.out W hW hw)) (fun e _ => vac e)
              · show MonoGAt _ _ _ _ _ _ _ 12 _
                exact heldQ rfl (by decide) (fun _ _ h => h) rfl (fun hw => bConvO rfl (k := 11) (by decide) rfl (.string st) (G := fun v W => ∃ B, BOwn B v (l) W) (fun _ _ h => h hw) (fun _ _ h => own_str hst h) (fun _ _ => rfl)) (fun e _ => vac e)
              · show MonoGAt _ _ _ _ _ _ _ 13 _
                exact heldQ rfl (by decide) (fun _ _ h => h) rfl (fun hw => bMvOld rfl (by decide) (.slice A n cp) o0 (fun _ _ _ => rfl)) (fun e _ => vac e)
              · show MonoGAt _ _ _ _ _ _ _ 14 _
                exact heldQ rfl (by decide) (fun _ _ h => h) rfl (fun hw => bConvT rfl (k := 13) (by decide) rfl (.string st) (.slice A n cp) (fun _ _ h => h hw) (fun W hW => kT.out W hW) (fun _ _ => rfl)) (fun e _ => vac e)
              · show MonoGAt _ _ _ _ _ _ _ 15 _
                exact heldQ rfl (by decide) (fun _ _ h => h) rfl (fun hw => bNeS rfl (k := 12) (k' := 14) (by decide) rfl (by decide) rfl st (fun _ _ h => h hw) (fun _ _ h => h hw) (fun _ _ => rfl)) (fun e _ => vac e)
              · show MonoGAt _ _ _ _ _ _ _ 16 _
                exact heldY rfl (by decide) (fun _ _ h => h) rfl (fun hw => bOr rfl (k := 9) (k' := 15) (by decide) rfl (by decide) rfl false false (fun _ _ h => Quest.is h hw) (fun _ _ _ h => h hw) (fun _ _ => rfl)) (fun e _ => vac e)
              · show MonoGAt _ _ _ _ _ _ _ 17 _
                exact .plain rfl rfl (bAndF rfl (k := 2) (k' := 16) (by decide) rfl (by decide) rfl (be) (fun _ _ h => h) (fun hw _ _ h => h hw) (fun _ => rfl))
              · show MonoGAt _ _ _ _ _ _ _ 18 _
                exact .plain rfl rfl (bMvNew rfl (k := 17) (by decide) rfl (fun _ _ h => h))
              · show MonoGAt _ _ _ _ _ _ _ 19 _
                exact heldF rfl (by decide) (fun _ _ h => h) rfl (bMvOld rfl (by decide) (.int .i64 (E2 : Int)) o7 (fun _ _ => rfl))
              · show MonoGAt _ _ _ _ _ _ _ 20 _
                exact heldF rfl (by decide) (fun _ _ h => h) rfl (bEq0b rfl (k := 19) (by decide) rfl ((E2 : Int)) (fun _ _ h => h) Try.underlying28 hbf (fun _ => rfl))
              · show MonoGAt _ _ _ _ _ _ _ 21 _
                exact heldF rfl (by decide) (fun _ _ h => h) rfl (bMvNew rfl (k := 20) (by decide) rfl (fun _ _ h => h))
              · show MonoGAt _ _ _ _ _ _ _ 22 _
                exact heldY rfl (by decide) (fun _ _ h => h) rfl (fun hw => bLdOld rfl (by decide) ⟨X6, 0, none⟩ _ o6 (fun W hW => ld_rep (Q6.out W (hzd W hW)).1) (fun _ _ _ => rfl)) (fun e _ => vac e)
              · show MonoGAt _ _ _ _ _ _ _ 23 _
                exact heldY rfl (by decide) (fun _ _ h => h) rfl (fun hw => bCallV rfl (k := 22) (by decide) rfl cf_rep (.agg #[.int .i64 r.st, .int .i64 r.tag, .string z1, .slice a6 n6 k6, .string z2]) (fun _ _ h => h hw) (fun W hW => z6.out W hW hw)) (fun e _ => vac e)
              · show MonoGAt _ _ _ _ _ _ _ 24 _
                exact heldY rfl (by decide) (fun _ _ h => h) rfl (fun hw => bConvO rfl (k := 23) (by decide) rfl (.string st) (G := fun v W => ∃ B, BOwn B v (l) W) (fun _ _ h => h hw) (fun _ _ h => own_str hst h) (fun _ _ => rfl)) (fun e _ => vac e)
              · show MonoGAt _ _ _ _ _ _ _ 25 _
                exact heldY rfl (by decide) (fun _ _ h => h) rfl (fun hw => bMvOld rfl (by decide) (.slice A n cp) o0 (fun _ _ _ => rfl)) (fun e _ => vac e)
              · show MonoGAt _ _ _ _ _ _ _ 26 _
                exact heldY rfl (by decide) (fun _ _ h => h) rfl (fun hw => bConvT rfl (k := 25) (by decide) rfl (.string st) (.slice A n cp) (fun _ _ h => h hw) (fun W hW => kT.out W hW) (fun _ _ => rfl)) (fun e _ => vac e)
              · show MonoGAt _ _ _ _ _ _ _ 27 _
                exact heldY rfl (by decide) (fun _ _ h => h) rfl (fun hw => bNeS rfl (k := 24) (k' := 26) (by decide) rfl (by decide) rfl st (fun _ _ h => h hw) (fun _ _ h => h hw) (fun _ _ => rfl)) (fun e _ => vac e)
              · show MonoGAt _ _ _ _ _ _ _ 28 _
                exact heldY rfl (by decide) (fun _ _ h => h) rfl (fun hw => bMvNew rfl (k := 27) (by decide) rfl (fun _ _ h => Quest.no hw (h hw))) (fun e _ => Quest.undef e)
              · show MonoGAt _ _ _ _ _ _ _ 29 _
                exact heldQ rfl (by decide) (fun _ _ h => h) rfl (fun hw => bLdOld rfl (by decide) ⟨X15, 0, none⟩ _ o15 (fun W hW => ld_rep (Q15.out W (hzd W hW)).1) (fun _ _ _ => rfl)) (fun e _ => vac e)
              · show MonoGAt _ _ _ _ _ _ _ 30 _
                exact heldQ rfl (by decide) (fun _ _ h => h) rfl (fun hw => bCallV rfl (k := 29) (by decide) rfl cf_rep (.agg #[.int .i64 y.st, .int .i64 y.tag, .string v1, .slice a15 n15 k15, .string v2]) (fun _ _ h => h hw) (fun W hW => z15.out W hW hw)) (fun e _ => vac e)
              · show MonoGAt _ _ _ _ _ _ _ 31 _
                exact heldQ rfl (by decide) (fun _ _ h => h) rfl (fun hw => bConvO rfl (k := 30) (by decide) rfl (.string st) (G := fun v W => ∃ B, BOwn B v (l) W) (fun _ _ h => h hw) (fun _ _ h => own_str hst h) (fun _ _ => rfl)) (fun e _ => vac e)
              · show MonoGAt _ _ _ _ _ _ _ 32 _
                exact heldQ rfl (by decide) (fun _ _ h => h) rfl (fun hw => bMvOld rfl (by decide) (.slice A n cp) o0 (fun _ _ _ => rfl)) (fun e _ => vac e)
              · show MonoGAt _ _ _ _ _ _ _ 33 _
                exact heldQ rfl (by decide) (fun _ _ h => h) rfl (fun hw => bConvT rfl (k := 32) (by decide) rfl (.string st) (.slice A n cp) (fun _ _ h => h hw) (fun W hW => kT.out W hW) (fun _ _ => rfl)) (fun e _ => vac e)
              · show MonoGAt _ _ _ _ _ _ _ 34 _
                exact heldQ rfl (by decide) (fun _ _ h => h) rfl (fun hw => bNeS rfl (k := 31) (k' := 33) (by decide) rfl (by decide) rfl st (fun _ _ h => h hw) (fun _ _ h => h hw) (fun _ _ => rfl)) (fun e _ => vac e)
              · show MonoGAt _ _ _ _ _ _ _ 35 _
                exact heldY rfl (by decide) (fun _ _ h => h) rfl (fun hw => bOr rfl (k := 28) (k' := 34) (by decide) rfl (by decide) rfl false false (fun _ _ h => Quest.is h hw) (fun _ _ _ h => h hw) (fun _ _ => rfl)) (fun e _ => vac e)
              · show MonoGAt _ _ _ _ _ _ _ 36 _
                exact heldF rfl (by decide) (fun _ _ h => h) rfl (bAndF rfl (k := 21) (k' := 35) (by decide) rfl (by decide) rfl (bf) (fun _ _ h => h) (fun hw _ _ h => h hw) (fun _ => rfl))
              · show MonoGAt _ _ _ _ _ _ _ 37 _
                exact .plain rfl rfl (bOr rfl (k := 18) (k' := 36) (by decide) rfl (by decide) rfl false false (fun _ _ h => h) (fun _ _ _ h => h) (fun _ => rfl))
            · intro u W hW hu
              have r1 : u 170 = .bool false := hu 37 170 rfl
              clear hu
              show K' _ _
              refine hK' _ _ (Met.intro (hJ2 _ _ ?_))
              unfold Rg.puts
              simp only [List.foldl_cons, List.foldl_nil, Act.put, List.setIfInBounds_toArray, List.set_cons_succ, List.set_cons_zero]
              repeat apply Exists.intro
              refine ⟨?rel3, rfl⟩
              exact ⟨r1, Lib.hid (hzE W hW)⟩
          case rest =>
            obtain ⟨rfl, hbF⟩ := hcut
            obtain ⟨wF, rfl⟩ : ∃ q, q = wc := ⟨_, rfl⟩
            clear kT z4 z14 z6 z15 hzE qc qx qr qy
            have bd := log_bd (Or.inl Dg.out.1) hn'.out h5'
            have cL := Cd.refLog_any wF g (.slice a8 n8 k8) (.slice b8 m8 j8) (Q8.out wF hbF.out).2.1 (Q8.out wF hbF.out).2.2 bd.1 bd.2
            unfold logV at cL
            rw [Yg.out.1, Yg.out.2.1, Yg.out.2.2.1, Yg.out.2.2.2.1, Yg.out.2.2.2.2.1, Yg.out.2.2.2.2.2] at cL
            have cc0 : wF.cell? ⟨X8, 0, none⟩ = some (.int .i64 g.term) := Lib.cell_of_heap (Q8.out wF hbF.out).1 0
            have cc1 : wF.cell? ⟨X8, 1, none⟩ = some (.int .i64 g.kind) := Lib.cell_of_heap (Q8.out wF hbF.out).1 1
            have cc2 : wF.cell? ⟨X8, 2, none⟩ = some (.int .i64 g.com.op) := Lib.cell_of_heap (Q8.out wF hbF.out).1 2
            have cc3 : wF.cell? ⟨X8, 3, none⟩ = some (.string l1) := Lib.cell_of_heap (Q8.out wF hbF.out).1 3
            have cc4 : wF.cell? ⟨X8, 4, none⟩ = some (.string l2) := Lib.cell_of_heap (Q8.out wF hbF.out).1 4
            have cc5 : wF.cell? ⟨X8, 5, none⟩ = some (.string l3) := Lib.cell_of_heap (Q8.out wF hbF.out).1 5
            have cc6 : wF.cell? ⟨X8, 6, none⟩ = some (.string l4) := Lib.cell_of_heap (Q8.out wF hbF.out).1 6
            have cc7 : wF.cell? ⟨X8, 7, none⟩ = some (.string l5) := Lib.cell_of_heap (Q8.out wF hbF.out).1 7
            have cc8 : wF.cell? ⟨X8, 8, none⟩ = some (.string l6) := Lib.cell_of_heap (Q8.out wF hbF.out).1 8
            have cc9 : wF.cell? ⟨X8, 9, none⟩ = some (.slice a8 n8 k8) := Lib.cell_of_heap (Q8.out wF hbF.out).1 9
            have cc10 : wF.cell? ⟨X8, 10, none⟩ = some (.int .i64 g.com.pos) := Lib.cell_of_heap (Q8.out wF hbF.out).1 10
            have cc11 : wF.cell? ⟨X8, 11, none⟩ = some (.int .i64 g.com.ses) := Lib.cell_of_heap (Q8.out wF hbF.out).1 11
            have cc12 : wF.cell? ⟨X8, 12, none⟩ = some (.int .i64 g.com.seq) := Lib.cell_of_heap (Q8.out wF hbF.out).1 12
            have cc13 : wF.cell? ⟨X8, 13, none⟩ = some (.slice b8 m8 j8) := Lib.cell_of_heap (Q8.out wF hbF.out).1 13
            clear bd
            go_wp2_with fail
            go_at_call 20
            refine cL.mono ?_
            rintro e w24 ⟨u1, k1, rfl, hR1, hb24⟩
            clear cL cc0 cc1 cc2 cc3 cc4 cc5 cc6 cc7 cc8 cc9 cc10 cc11 cc12 cc13
            have hb24' := Lib.hid (hbF.out.trans (hb24.mono hbF.out.size))
            have hR1' := Lib.hid hR1
            clear hR1 hb24
            have bd := log_bd (Or.inr Dz.out.1) hn'.out h5'
            have cL := Cd.refLog_any w24 z (.slice a16 n16 k16) (.slice b16 m16 j16) (Q16.out w24 hb24'.out).2.1 (Q16.out w24 hb24'.out).2.2 bd.1 bd.2
            unfold logV at cL
            rw [Yz.out.1, Yz.out.2.1, Yz.out.2.2.1, Yz.out.2.2.2.1, Yz.out.2.2.2.2.1, Yz.out.2.2.2.2.2] at cL
            have cc0 : w24.cell? ⟨X16, 0, none⟩ = some (.int .i64 z.term) := Lib.cell_of_heap (Q16.out w24 hb24'.out).1 0
            have cc1 : w24.cell? ⟨X16, 1, none⟩ = some (.int .i64 z.kind) := Lib.cell_of_heap (Q16.out w24 hb24'.out).1 1
            have cc2 : w24.cell? ⟨X16, 2, none⟩ = some (.int .i64 z.com.op) := Lib.cell_of_heap (Q16.out w24 hb24'.out).1 2
            have cc3 : w24.cell? ⟨X16, 3, none⟩ = some (.string u1x) := Lib.cell_of_heap (Q16.out w24 hb24'.out).1 3
            have cc4 : w24.cell? ⟨X16, 4, none⟩ = some (.string u2x) := Lib.cell_of_heap (Q16.out w24 hb24'.out).1 4
            have cc5 : w24.cell? ⟨X16, 5, none⟩ = some (.string u3x) := Lib.cell_of_heap (Q16.out w24 hb24'.out).1 5
            have cc6 : w24.cell? ⟨X16, 6, none⟩ = some (.string u4x) := Lib.cell_of_heap (Q16.out w24 hb24'.out).1 6
            have cc7 : w24.cell? ⟨X16, 7, none⟩ = some (.string u5x) := Lib.cell_of_heap (Q16.out w24 hb24'.out).1 7
            have cc8 : w24.cell? ⟨X16, 8, none⟩ = some (.string u6x) := Lib.cell_of_heap (Q16.out w24 hb24'.out).1 8
            have cc9 : w24.cell? ⟨X16, 9, none⟩ = some (.slice a16 n16 k16) := Lib.cell_of_heap (Q16.out w24 hb24'.out).1 9
            have cc10 : w24.cell? ⟨X16, 10, none⟩ = some (.int .i64 z.com.pos) := Lib.cell_of_heap (Q16.out w24 hb24'.out).1 10
            have cc11 : w24.cell? ⟨X16, 11, none⟩ = some (.int .i64 z.com.ses) := Lib.cell_of_heap (Q16.out w24 hb24'.out).1 11
            have cc12 : w24.cell? ⟨X16, 12, none⟩ = some (.int .i64 z.com.seq) := Lib.cell_of_heap (Q16.out w24 hb24'.out).1 12
            have cc13 : w24.cell? ⟨X16, 13, none⟩ = some (.slice b16 m16 j16) := Lib.cell_of_heap (Q16.out w24 hb24'.out).1 13
            clear bd
            go_wp2_with fail
            go_at_call 20
            refine cL.mono ?_
            rintro e w25 ⟨u2, k2, rfl, hR2, hb25⟩
            clear cL cc0 cc1 cc2 cc3 cc4 cc5 cc6 cc7 cc8 cc9 cc10 cc11 cc12 cc13
            have hb25' := Lib.hid (hb24'.out.trans (hb25.mono hb24'.out.size))
            have hR2' := Lib.hid hR2
            have hb25h := Lib.hid hb25
            clear hR2 hb25
            have kc0 : (convert 22 9 (.slice A n cp)).run Try.prog w25 = .ok (.string st) w25 := (by rw [← hst]; exact conv_bts (QB.out w25 hb25'.out).1)
            by_cases h0 : E3 = 0
            · obtain ⟨kg, kz⟩ : logB g = some l ∧ logB z = some l := by
                have kk := got_logB (Dg.out.2.trans h0)
                rw [Dg.out.1, Dz.out.1] at kk
                exact kk
              have hR1 := hR1'.out
              have hR2 := hR2'.out
              rw [kg] at hR1
              rw [kz] at hR2
              obtain ⟨rfl, hO1⟩ := hR1
              obtain ⟨rfl, hO2⟩ := hR2
              have kc1 : (convert 22 9 u1).run Try.prog w25 = .ok (.string st) w25 := own_str hst ⟨_, hO1.kept hb25h.out⟩
              have kc2 : (convert 22 9 u2).run Try.prog w25 = .ok (.string st) w25 := own_str hst ⟨_, hO2⟩
              have qe : (st.toList == st.toList) = true := by simp
              have ge1 : ((E3 : Int) != 0) = false := by rw [h0]; rfl
              have ge2 : ((E3 : Int) == 0) = true := by rw [h0]; rfl
              clear hO1 hO2 kg kz h0 hR1' hR2' hst
              go_wp2
              go_ret
              exact ⟨rfl, (QB.out w25 hb25'.out).2⟩
            · have ge1 : ((E3 : Int) != 0) = true := by simpa using h0
              have ge2 : ((E3 : Int) == 0) = false := by simpa using h0
              clear kc0 hR1' hR2' hst h0
              go_wp2
              go_ret
              exact ⟨rfl, (QB.out w25 hb25'.out).2⟩
end Go.Proofs.Ytpngbfmbjldieaa.Ly
