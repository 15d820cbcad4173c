/-
  PutCommand, PutReply AND bytes.Equal.
-/
import Derived.Test.YtpngbfmbjldieaaWrtD
import Derived.Laws.BytesArg
import Derived.Laws.IdiomStrings
set_option linter.unusedVariables false
namespace Go.Proofs.Ytpngbfmbjldieaa.Ly
open Go.Lib Go.RowKit
open Bo (Kp Row ownsRow_heap sv sv_data)
open Cd (RowsAt StrsAt EntsAt text_len flatN rows Com comB comC comV Rep repB repV enB)

/-- bytes of the call's own as a string -/
theorem conv_own {W : World} {B : Nat} {v : Value} {l : Row} (h : BOwn B v l W) : (convert 22 9 v).run Try.prog W = .ok (.string ⟨l.toArray⟩) W := by
  rcases h.2 with ⟨hv, hn⟩ | ⟨g, cap, cur, hv, _⟩
  · obtain rfl : l = [] := List.eq_nil_of_length_eq_zero hn
    rw [hv]
    exact run_convert_bytes_nil W 22 5 Try.underlying22 Try.underlying5 0 0 9 Try.underlying9
  · have h' : W.ownsRow B 5 1 (.slice (some ⟨g, 0, none⟩) l.length cap) l.length (bc l) := hv ▸ h
    rw [hv]
    refine run_convert_bytes_back W 22 9 5 ⟨g, 0, none⟩ cap l Try.underlying22 Try.underlying5 Try.underlying9 fun j hj => ?_
    exact h'.cells rfl j _ (by simp [bc, List.getElem?_eq_getElem hj])
set_option maxHeartbeats 2000000 in
theorem bytesW_any (w : World) (B wb : Nat) (v : Value) (l : Row) (h : WAt B wb v l w) : Calls Try.prog 40 #[rp wb] w fun e w' => e = .returned v ∧ w' = w := by
  have c0 := Lib.cell_of_heap h.cell 0
  obtain ⟨a, c, rfl⟩ := h.own.form
  clear h
  go_enter Try.func40, Try.ntmps40
  go_wp2
  go_ret
  exact ⟨rfl, rfl⟩
set_option maxHeartbeats 2000000 in
theorem equal_any (w : World) (B1 B2 : Nat) (v1 v2 : Value) (l1 l2 : Row) (h1 : BOwn B1 v1 l1 w) (h2 : BOwn B2 v2 l2 w) :
    Calls Try.prog 67 #[v1, v2] w fun e w' => e = .returned (.bool (decide (l1 = l2))) ∧ w' = w := by
  have k1 := conv_own h1
  have k2 := conv_own h2
  obtain ⟨a1, c1, rfl⟩ := h1.form
  obtain ⟨a2, c2, rfl⟩ := h2.form
  obtain ⟨x, hx⟩ : ∃ x : ByteArray, (⟨l1.toArray⟩ : ByteArray) = x := ⟨_, rfl⟩
  obtain ⟨y, hy⟩ : ∃ y : ByteArray, (⟨l2.toArray⟩ : ByteArray) = y := ⟨_, rfl⟩
  have he : (x.toList == y.toList) = decide (l1 = l2) := by
    rw [Lib.toList_data, Lib.toList_data, ← hx, ← hy]
    by_cases hq : l1 = l2
    · rw [decide_eq_true hq]; exact beq_iff_eq.2 (by rw [hq])
    · rw [decide_eq_false hq]; exact beq_eq_false_iff_ne.2 (by simpa using hq)
  rw [hx] at k1
  rw [hy] at k2
  obtain ⟨b, hb⟩ : ∃ b, decide (l1 = l2) = b := ⟨_, rfl⟩
  rw [hb] at he ⊢
  clear h1 h2 hx hy hb
  go_enter Try.func67, Try.ntmps67
  go_wp2
  go_ret
  exact ⟨rfl, rfl⟩
/-- a new writer, behind what was there -/
theorem wat_new (w : World) (B : Nat) (hB : B ≤ w.heap.size) : WAt B w.heap.size (.slice none 0 0) [] (w.alloc (.cells #[.slice none 0 0] 81)) :=
  ⟨heap_alloc_new w _, BOwn.nil B _, by simp [Value.ownBlock]⟩
theorem apart_low {wb B : Nat} {av : Value} {w : World} {v : Value} {l : Row} {α : Type} {size : Nat} {enc : α → List Value} {xs : List α} (h : WAt B wb v l w) (hw : B ≤ wb) {w0 : World} (ha : RowsAt size enc w0 av xs) (hB : w0.heap.size ≤ B) : 0 < xs.length → Apart wb v av := fun hl => Apart.low h hw fun nb off n c e => by
  obtain ⟨A, b, o2, c2, h1, h2, h3, h4, h5⟩ := ha
  obtain ⟨hA, hlt⟩ := h4 hl
  rw [h1, hA] at e
  injection e with e _ _
  injection e with e
  injection e with e _ _
  omega

set_option maxHeartbeats 8000000 in
set_option maxRecDepth 100000 in
theorem putCom_any (w : World) (c : Com) (nv : Value) (ha : StrsAt w nv c.names) (hL : 88 + c.book.length + c.name.length + c.data.length + c.mat.length + c.non.length + c.tok.length + flatN text c.names ≤ 70368744177664) :
    Calls Try.prog 21 #[comV c nv] w fun e w' => ∃ v', e = .returned v' ∧ BOwn w.heap.size v' (comB c) w' ∧ Below w.heap.size w w' := by
  have ha0 := ha
  obtain ⟨A, nb, off, cp, rfl, -, -, -, -⟩ := ha0
  unfold comV comC
  obtain ⟨w1, hw1⟩ : ∃ w1, w.alloc (.cells #[.int .i64 c.op, sv c.book, sv c.name, sv c.data, sv c.mat, sv c.non, sv c.tok, .slice A c.names.length cp, .int .i64 c.pos, .int .i64 c.ses, .int .i64 c.seq] 27) = w1 := ⟨_, rfl⟩
  obtain ⟨w2, hw2⟩ : ∃ w2, w1.alloc (.cells #[.slice none 0 0] 81) = w2 := ⟨_, rfl⟩
  have hb1 : Below w.heap.size w w1 := by rw [← hw1]; exact below_one _ _
  have hb2 : Below w1.heap.size w1 w2 := by rw [← hw2]; exact below_one _ _
  have hbox : w1.heap[w.heap.size]? = some (.cells #[.int .i64 c.op, sv c.book, sv c.name, sv c.data, sv c.mat, sv c.non, sv c.tok, .slice A c.names.length cp, .int .i64 c.pos, .int .i64 c.ses, .int .i64 c.seq] 27 (0, 0)) := by rw [← hw1]; exact heap_alloc_new w _
  have hlt := (Array.getElem?_eq_some_iff.1 hbox).1
  have hbox2 := (hb2.block _ hlt).trans hbox
  have hA : WAt w.heap.size w1.heap.size (.slice none 0 0) [] w2 := by rw [← hw2]; exact wat_new w1 _ (by omega)
  have hb := hb1.trans (hb2.mono hb1.size)
  have cP := putCommand_any w2 w.heap.size w1.heap.size (.slice none 0 0) [] c (.slice A c.names.length cp) (ha.kept hb) (apart_low hA (by omega) ha (Nat.le_refl _)) hA (by simp only [List.length_nil]; omega) hb.size
  have hbl := fun w' v' l' (h : Wn w.heap.size w1.heap.size w2 w' (.slice none 0 0) v' l') => h.below hA hb hb.size (by omega)
  obtain ⟨B, hB⟩ : ∃ B, w.heap.size = B := ⟨_, rfl⟩
  obtain ⟨wb, hwb⟩ : ∃ wb, w1.heap.size = wb := ⟨_, rfl⟩
  rw [hB, hwb] at cP hbl
  rw [hB] at hbox hbox2 hlt
  have hB' := Lib.hid hB
  have hbl' := Lib.hid hbl
  rw [List.nil_append] at cP
  unfold comV comC at cP
  have hlt2 : B < w2.heap.size := (Array.getElem?_eq_some_iff.1 hbox2).1
  have d0 := Lib.cell_of_heap hbox2 0
  have d1 := Lib.cell_of_heap hbox2 1
  have d2 := Lib.cell_of_heap hbox2 2
  have d3 := Lib.cell_of_heap hbox2 3
  have d4 := Lib.cell_of_heap hbox2 4
  have d5 := Lib.cell_of_heap hbox2 5
  have d6 := Lib.cell_of_heap hbox2 6
  have d7 := Lib.cell_of_heap hbox2 7
  have d8 := Lib.cell_of_heap hbox2 8
  have d9 := Lib.cell_of_heap hbox2 9
  have d10 := Lib.cell_of_heap hbox2 10
  clear hb1 hb2 hbox hbox2 hA hb hbl ha
  go_enter Try.func21, Try.ntmps21
  go_wp2_with fail
  go_at_call 39
  refine cP.mono ?_
  rintro e w3 ⟨rfl, v3, h3⟩
  have cB := bytesW_any w3 B wb v3 _ h3.at_
  have h3' := Lib.hid h3
  obtain ⟨a3, n3, c3, rfl⟩ : ∃ a n c, v3 = .slice a n c := by obtain ⟨a, c, e⟩ := h3.at_.own.form; exact ⟨_, _, _, e⟩
  clear h3 cP
  go_wp2_with fail
  go_at_call 40
  refine cB.mono ?_
  rintro e w4 ⟨rfl, e4⟩
  have hF := Lib.hid (And.intro h3'.out.at_.own (hbl'.out w3 _ _ h3'.out))
  rw [← e4] at hF
  clear cB e4
  go_wp2
  go_ret
  exact ⟨_, rfl, by rw [hB'.out]; exact hF.out⟩

end Go.Proofs.Ytpngbfmbjldieaa.Ly
