/-
  A WRITER IN MEMORY (lay.Writer: one cell, the bytes that were laid): 'WAt', and what a call leaves that lays more ('Wn'). The walks of Byte, Number.
-/
import Derived.Test.YtpngbfmbjldieaaLayB
import Derived.Test.YtpngbfmbjldieaaCodRefNum
import Derived.Test.YtpngbfmbjldieaaCodMem
set_option linter.unusedVariables false
namespace Go.Proofs.Ytpngbfmbjldieaa.Ly
open Go.Lib Go.RowKit
open Bo (Kp Row ownsRow_heap sv sv_data)
open Cd (wrd wrd_len toU toU_lt wrap_toU)

abbrev rp (rb : Nat) : Value := .pointer (some ⟨rb, 0, none⟩)
/-- a writer at block wb: v holds l -/
structure WAt (B wb : Nat) (v : Value) (l : Row) (w : World) : Prop where
  cell : w.heap[wb]? = some (.cells #[v] 81 (0, 0))
  own : BOwn B v l w
  ne : v.ownBlock ≠ some wb
/-- l is laid; nothing but the writer, its bytes and new blocks has turned -/
structure Wn (B wb : Nat) (w w' : World) (v v' : Value) (l : Row) : Prop where
  at_ : WAt B wb v' l w'
  kp : Kp (wb :: v.ownBlock.toList) w w'
  new : ∀ k, v'.ownBlock = some k → v.ownBlock = some k ∨ w.heap.size ≤ k
theorem WAt.lt {B wb : Nat} {v : Value} {l : Row} {w : World} (h : WAt B wb v l w) : wb < w.heap.size := (Array.getElem?_eq_some_iff.1 h.cell).1
theorem WAt.kept {B wb : Nat} {v : Value} {l : Row} {w w' : World} (h : WAt B wb v l w) (hb : Below w.heap.size w w') : WAt B wb v l w' :=
  ⟨(hb.block _ h.lt).trans h.cell, h.own.kept hb, h.ne⟩
theorem Wn.refl {B wb : Nat} {w : World} {v : Value} {l : Row} (h : WAt B wb v l w) : Wn B wb w w v v l := ⟨h, Kp.refl _ _, fun k hk => .inl hk⟩
theorem Wn.then {B wb : Nat} {w w1 w2 : World} {v v1 v2 : Value} {l1 l2 : Row} (h : Wn B wb w w1 v v1 l1) (k : Wn B wb w1 w2 v1 v2 l2) : Wn B wb w w2 v v2 l2 :=
  ⟨k.at_, h.kp.then k.kp fun x hx => by
    rcases List.mem_cons.1 hx with e | hx
    · exact .inl (by simp [e])
    · rcases h.new x (by simpa using hx) with e | e
      · exact .inl (by simp [e])
      · exact .inr e, fun x hx => by
    rcases k.new x hx with e | e
    · exact h.new x e
    · exact .inr (Nat.le_trans h.kp.size e)⟩
theorem Wn.then_below {B wb : Nat} {w w1 w2 : World} {v v1 : Value} {l : Row} (h : Wn B wb w w1 v v1 l) (hb : Below w1.heap.size w1 w2) : Wn B wb w w2 v v1 l :=
  ⟨h.at_.kept hb, h.kp.belowThen hb, h.new⟩
/-- first something else is made, then more is laid -/
theorem Wn.after {B wb : Nat} {w0 w w' : World} {v v' : Value} {l : Row} (hb : Below w0.heap.size w0 w) (h : Wn B wb w w' v v' l) : Wn B wb w0 w' v v' l :=
  ⟨h.at_, (Kp.of_below hb).then h.kp fun x hx => .inl hx, fun x hx => (h.new x hx).imp id fun e => Nat.le_trans hb.size e⟩
/-- a block that is neither the writer's nor its bytes' stays -/
theorem Wn.block {B wb : Nat} {w w' : World} {v v' : Value} {l : Row} (h : Wn B wb w w' v v' l) {i : Nat} (hi : i < w.heap.size) (hn : i ≠ wb) (hv : v.ownBlock ≠ some i) : w'.heap[i]? = w.heap[i]? :=
  h.kp.block i hi fun e => (List.mem_cons.1 e).elim hn fun e => hv (by simpa using e)
theorem Wn.size {B wb : Nat} {w w' : World} {v v' : Value} {l : Row} (h : Wn B wb w w' v v' l) : w.heap.size ≤ w'.heap.size := h.kp.size
/-- what lies below stays, if the writer and its bytes don't -/
theorem Wn.below {B wb : Nat} {A w w' : World} {v v' : Value} {l l' : Row} (h : Wn B wb w w' v v' l') (ho : WAt B wb v l w) (hA : Below B A w) (hB : B ≤ w.heap.size) (hw : B ≤ wb) : Below B A w' :=
  h.kp.below hA (fun k hk => by
    rcases List.mem_cons.1 hk with e | hk
    · omega
    · exact (World.ownsRow.lt ho.own k (by simpa using hk)).1) hB
/-- bytes written on, and kept in the writer -/
theorem Wr.store {B wb : Nat} {w w1 : World} {v v' : Value} {l l' : Row} (h : Wr B w w1 v v' l') (hw : WAt B wb v l w) : Wn B wb w (w1.setCell ⟨wb, 0, none⟩ v') v v' l' := by
  have hb : w1.heap[wb]? = some (.cells #[v] 81 (0, 0)) := (h.block hw.lt hw.ne).trans hw.cell
  have hne : v'.ownBlock ≠ some wb := fun e => by
    rcases h.new wb e with e | e
    · exact hw.ne e
    · have := hw.lt; omega
  refine ⟨⟨?_, ?_, hne⟩, ?_, h.new⟩
  · simp [World.setCell, Array.getElem?_modify, hb]
  · exact h.own.heap fun g hg => Below.heap_setCell _ _ _ g (fun e => hne (by rw [hg]; exact congrArg some e))
  · exact (h.kp.mono fun k hk => List.mem_cons_of_mem _ hk).setCell (.inl (by simp)) _

set_option maxHeartbeats 8000000 in
set_option maxRecDepth 100000 in
theorem byteW_any (w : World) (B wb : Nat) (v : Value) (l : Row) (x : UInt8) (z : Int) (hz : (x.toNat : Int) = z) (h : WAt B wb v l w) (hl : l.length + 1 ≤ 140737488355328) (hB : B ≤ w.heap.size) :
    Calls Try.prog 44 #[rp wb, .int .u8 z] w fun e w' => e = .returned (.tuple #[]) ∧ ∃ v', Wn B wb w w' v v' (l ++ [x]) := by
  obtain ⟨a0, c0, rfl⟩ := h.own.form
  have k0 := Lib.cell_of_heap h.cell 0
  have h' := Lib.hid h
  have hst := Lib.hid (fun w1 g cap (hw : Wr B w w1 (.slice a0 l.length c0) (.slice (some ⟨g, 0, none⟩) (l.length + 1) cap) (l ++ [x])) => And.intro (And.intro (Lib.cell_of_heap ((hw.block h.lt h.ne).trans h.cell) 0) (Lib.frozen_of_heap ((hw.block h.lt h.ne).trans h.cell) 0)) (Wr.store hw h))
  clear h
  go_enter Try.func44, Try.ntmps44
  go_wp2_with (first
    | (at_builtin; refine append_byte x z hz rfl _ _ rfl B _ _ _ rfl rfl rfl h'.out.own hl hB ?_; intro g cap w2 hw2; have hf : w2.frozen? ⟨wb, 0, none⟩ = false := (hst.out w2 g cap hw2).1.2; have hc : w2.cell? ⟨wb, 0, none⟩ = some (.slice a0 l.length c0) := (hst.out w2 g cap hw2).1.1; have hW2 := Lib.hid (hst.out w2 g cap hw2).2)
    | fail)
  clear hw2
  go_wp2
  go_end0
  exact ⟨rfl, _, hW2.out⟩

set_option maxHeartbeats 8000000 in
set_option maxRecDepth 100000 in
theorem numberW_any (w : World) (B wb : Nat) (v : Value) (l : Row) (z : Int) (h : WAt B wb v l w) (hl : l.length + 8 ≤ 140737488355328) (hB : B ≤ w.heap.size) :
    Calls Try.prog 43 #[rp wb, .int .i64 z] w fun e w' => e = .returned (.tuple #[]) ∧ ∃ v', Wn B wb w w' v v' (l ++ wrd z) := by
  have h0 := Lib.hid (Wn.refl h)
  have hU := wrap_toU z
  have hm := toU_lt z
  unfold wrd
  obtain ⟨n, hn⟩ : ∃ n, toU z = n := ⟨_, rfl⟩
  rw [hn] at hU hm ⊢
  clear hn
  go_enter Try.func43, Try.ntmps43
  go_wp2
  go_loopw [4] (fun s4 wr => ∃ k : Nat, s4 = .int .i64 (56 - 8 * (k : Int)) ∧ k ≤ 8 ∧ Hid (∃ v1, Wn B wb w wr v v1 (l ++ (word n).take k))) (fun s4 wr => (RowKit.intOf s4 + 8).toNat)
  case atStart => exact ⟨0, by rfl, by omega, Lib.hid ⟨v, by rw [List.take_zero, List.append_nil]; exact h0.out⟩⟩
  case round =>
    obtain ⟨k, rfl, hk, hW⟩ := hrel
    obtain ⟨v1, hW1⟩ := hW.out
    clear hW
    have hW := hW1
    clear hW1
    obtain ⟨x, hx⟩ : ∃ x, l ++ (word n).take k = x := ⟨_, rfl⟩
    rw [hx] at hW
    have hx' := Lib.hid hx
    by_cases hlt : k < 8
    · have hz : ((UInt8.ofNat (n / 2 ^ (56 - 8 * k))).toNat : Int) = (n : Int) / 2 ^ (56 - 8 * k) % 256 := by simp
      have cB := byteW_any wr B wb v1 x (UInt8.ofNat (n / 2 ^ (56 - 8 * k))) _ hz hW.at_ (by rw [← hx, List.length_append, List.length_take, word_len]; omega) (Nat.le_trans hB hW.size)
      have hW' := Lib.hid hW
      clear hx hW hz
      go_wp2_with fail
      go_at_call 44
      refine cB.mono ?_
      rintro e w2 ⟨rfl, v2, hw2⟩
      have hW2 := Lib.hid (hW'.out.then hw2)
      clear hw2 cB
      go_wp2
      go_roundw
      case rel => exact ⟨k + 1, by go_num, by omega, Lib.hid ⟨v2, by rw [word_take n k hlt, ← List.append_assoc, hx'.out]; exact hW2.out⟩⟩
      case measure => simp [RowKit.intOf]; omega
    · obtain rfl : k = 8 := by omega
      have hxe : x = l ++ word n := by rw [← hx, List.take_of_length_le (by rw [word_len]; exact Nat.le_refl _)]
      rw [hxe] at hW
      have hW' := Lib.hid hW
      clear hx hW hxe
      go_wp2
      go_end0
      exact ⟨rfl, _, hW'.out⟩
end Go.Proofs.Ytpngbfmbjldieaa.Ly
