/-
  HOW COMMANDS, REPLIES AND ENTRIES LIE IN MEMORY: rows wherever they read ('RowsAt'), the values of commands and replies.
-/
import Derived.Test.YtpngbfmbjldieaaLayB
import Derived.Test.YtpngbfmbjldieaaRowsAt
import Derived.Test.YtpngbfmbjldieaaCodLog
import Derived.BigQuiet
import Derived.Lib.Builder
import Derived.Deep.RegionHeld3
set_option linter.unusedVariables false
namespace Go.Proofs.Ytpngbfmbjldieaa.Ly
open Go.Lib Go.RowKit
open Bo (Row)
theorem Wr.low {B : Nat} {w w' : World} {v' : Value} {l : Row} (h : Wr B w w' (.slice none 0 0) v' l) : Below w.heap.size w w' :=
  ⟨h.kp.os, h.kp.tape, h.kp.output, h.kp.size, fun k hk => h.kp.block k hk (by simp [Value.ownBlock])⟩
end Go.Proofs.Ytpngbfmbjldieaa.Ly
namespace Go.Proofs.Ytpngbfmbjldieaa.Cd
open Go.Lib Go.RowKit
open Bo (Kp Row ownsRow_heap sv sv_data)
open Ly (BOwn Wr word text flag num word_len num_word word_take append_byte append_text)

def encE (e : En) : List Value := [sv e.name, .int .i64 e.tag, sv e.data, .bool e.gone]
abbrev EntsAt (w : World) (v : Value) (ls : List En) : Prop := RowsAt 4 encE w v ls
/-- a command's cells -/
def comC (c : Com) (nv : Value) : Array Value := #[.int .i64 c.op, sv c.book, sv c.name, sv c.data, sv c.mat, sv c.non, sv c.tok, nv, .int .i64 c.pos, .int .i64 c.ses, .int .i64 c.seq]
def comV (c : Com) (nv : Value) : Value := .agg (comC c nv)
def repV (r : Rep) (ev : Value) : Value := .agg #[.int .i64 r.st, .int .i64 r.tag, sv r.data, ev, sv r.tok]
/-- an entry of the log: its command's cells stand among its own -/
def logV (l : Lg) (nv ds : Value) : Value := .agg #[.int .i64 l.term, .int .i64 l.kind, .int .i64 l.com.op, sv l.com.book, sv l.com.name, sv l.com.data, sv l.com.mat, sv l.com.non, sv l.com.tok, nv, .int .i64 l.com.pos, .int .i64 l.com.ses, .int .i64 l.com.seq, ds]
theorem text_len (t : Row) : (text t).length = 8 + t.length := by unfold text; rw [List.length_append, word_len]
/-- the elements' bytes, up to k -/
def upK {α : Type} (put : α → Row) (xs : List α) (k : Nat) : Row := ((xs.take k).map put).flatten
theorem upK_zero {α : Type} (put : α → Row) (xs : List α) : upK put xs 0 = [] := rfl
theorem upK_succ {α : Type} (put : α → Row) {xs : List α} {k : Nat} {x : α} (h : xs[k]? = some x) : upK put xs (k + 1) = upK put xs k ++ put x := by
  have hk := List.getElem?_eq_some_iff.1 h
  unfold upK
  rw [List.take_succ_eq_append_getElem hk.1, List.map_append, List.flatten_append, hk.2]
  simp
theorem upK_all {α : Type} (put : α → Row) {xs : List α} {k : Nat} (h : xs.length ≤ k) : upK put xs k = (xs.map put).flatten := by
  unfold upK
  rw [List.take_of_length_le h]
def flatN {α : Type} (put : α → Row) (xs : List α) : Nat := ((xs.map put).flatten).length
theorem upK_le {α : Type} (put : α → Row) (xs : List α) (k : Nat) : (upK put xs k).length ≤ flatN put xs := by
  unfold upK flatN
  conv => rhs; rw [← List.take_append_drop k xs]
  rw [List.map_append, List.flatten_append, List.length_append]
  omega
theorem rows_len {α : Type} (put : α → Row) (xs : List α) : (rows put xs).length = 8 + flatN put xs := by unfold rows flatN; rw [List.length_append, word_len]
theorem len_flat {α : Type} {put : α → Row} (hp : ∀ x, 1 ≤ (put x).length) (xs : List α) : xs.length ≤ flatN put xs := flat_len hp xs
end Go.Proofs.Ytpngbfmbjldieaa.Cd
