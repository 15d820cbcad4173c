/-
  A WRITER IN MEMORY: the walks of entry, List of entries, Reply, and of codec's putCommand. (Written by tools/genwrtd.py.)
-/
import Derived.Test.YtpngbfmbjldieaaWrtC
import Derived.Test.YtpngbfmbjldieaaCodRefRep
set_option linter.unusedVariables false
namespace Go.Proofs.Ytpngbfmbjldieaa.Ly
open Go.Lib Go.RowKit
open Bo (Kp Row ownsRow_heap sv sv_data)
open Cd (wrd wrd_len RowsAt text_len IntsAt StrsAt EntsAt upK upK_zero upK_succ upK_all upK_le flatN rows rows_one encS encI encE wrd_nat len_flat wrd_pos text_pos En enB enB_len enB_pos Com comB comC comV Rep repB repV rows_len)

/-- a row that was just built -/
theorem rows_new {α : Type} {enc : α → List Value} {f : α → Value} (hf : ∀ x, enc x = [f x]) (w : World) (t : TypeId) (xs : List α) (n : Nat) (hn : xs.length = n) (hm : n ≤ maxLen) (cs : Array Value) (hc : cs = (xs.map f).toArray) : RowsAt 1 enc (w.alloc (.cells cs t)) (.slice (some ⟨w.heap.size, 0, none⟩) n n) xs := by
  subst hn
  refine ⟨_, w.heap.size, 0, xs.length, rfl, Nat.le_refl _, hm, fun _ => ⟨rfl, by simp⟩, fun j x hj q u hu => ?_⟩
  rw [hf] at hu
  have hq : q = 0 := by have := (List.getElem?_eq_some_iff.1 hu).1; simp at this; omega
  subst hq
  have hu' : f x = u := by simpa using hu
  subst hu'
  rw [Lib.cell_of_heap (heap_alloc_new w _), hc]
  simp [hj]
theorem WAt.alloc {B wb : Nat} {v : Value} {l : Row} {w : World} (h : WAt B wb v l w) (o : Obj) : WAt B wb v l (w.alloc o) := h.kept ((Below.refl _ _).alloc (Nat.le_refl _) _)
theorem below_one (w : World) (o : Obj) : Below w.heap.size w (w.alloc o) := (Below.refl _ _).alloc (Nat.le_refl _) _
theorem apart_new {wb B : Nat} {v : Value} {l : Row} {w : World} (h : WAt B wb v l w) (n c : Nat) : Apart wb v (.slice (some ⟨w.heap.size, 0, none⟩) n c) := Apart.new h fun nb off n c e => by
  injection e with e _ _
  injection e with e
  injection e with e _ _
  omega
/-- what was apart stays so -/
theorem apart_on {α : Type} {size : Nat} {enc : α → List Value} {B wb : Nat} {wz w w' : World} {v v' av : Value} {l : Row} {xs : List α} (ha : RowsAt size enc wz av xs) (hb : Below wz.heap.size wz w) (hap : 0 < xs.length → Apart wb v av) (hW : Wn B wb w w' v v' l) : 0 < xs.length → Apart wb v' av := fun hl nb off n c e => by
  obtain ⟨A, b, o2, c2, h1, h2, h3, h4, h5⟩ := ha
  obtain ⟨hA, hlt⟩ := h4 hl
  have h6 := hap hl nb off n c e
  refine ⟨h6.1, fun e2 => ?_⟩
  rcases hW.new nb e2 with e3 | e3
  · exact h6.2 e3
  · rw [h1, hA] at e
    injection e with e _ _
    injection e with e
    injection e with e _ _
    have := hb.size
    omega
theorem flat_wrd (xs : List Int) : flatN wrd xs = 8 * xs.length := by
  unfold flatN
  induction xs with
  | nil => rfl
  | cons x xs ih => rw [List.map_cons, List.flatten_cons, List.length_append, ih, wrd_len, List.length_cons]; omega




set_option maxHeartbeats 16000000 in
set_option maxRecDepth 100000 in
theorem putCommand_any (w : World) (B wb : Nat) (v : Value) (l : Row) (c : Com) (nv : Value) (ha : StrsAt w nv c.names) (hap : 0 < c.names.length → Apart wb v nv) (h : WAt B wb v l w) (hl : l.length + (88 + c.book.length + c.name.length + c.data.length + c.mat.length + c.non.length + c.tok.length + flatN text c.names) ≤ 70368744177664) (hB : B ≤ w.heap.size) :
    Calls Try.prog 39 #[rp wb, comV c nv] w fun e w' => e = .returned (.tuple #[]) ∧ ∃ v', Wn B wb w w' v v' (l ++ comB c) := by
  have ha0 := ha
  obtain ⟨A, nb, off, cp, rfl, -, -, -, -⟩ := ha0
  unfold comV comC
  obtain ⟨w0, hw0⟩ : ∃ w0, w.alloc (.cells #[.int .i64 c.op, sv c.book, sv c.name, sv c.data, sv c.mat, sv c.non, sv c.tok, .slice A c.names.length cp, .int .i64 c.pos, .int .i64 c.ses, .int .i64 c.seq] 27) = w0 := ⟨_, rfl⟩
  have hboxE : w0.heap[w.heap.size]? = some (.cells #[.int .i64 c.op, sv c.book, sv c.name, sv c.data, sv c.mat, sv c.non, sv c.tok, .slice A c.names.length cp, .int .i64 c.pos, .int .i64 c.ses, .int .i64 c.seq] 27 (0, 0)) := by rw [← hw0]; exact heap_alloc_new w _
  have hbE : Below w.heap.size w w0 := by rw [← hw0]; exact below_one _ _
  have hgE : w.heap.size < w0.heap.size := (Array.getElem?_eq_some_iff.1 hboxE).1
  have hW0 := Lib.hid ((Wn.refl h).then_below hbE)
  have hneW : w.heap.size ≠ wb := by have := h.lt; omega
  have hneV : v.ownBlock ≠ some w.heap.size := fun e => by
    have := (World.ownsRow.lt h.own _ e).2
    omega
  obtain ⟨BE, hBE⟩ : ∃ BE, w.heap.size = BE := ⟨_, rfl⟩
  rw [hBE] at hboxE hgE hneW hneV
  have hBB : B ≤ w0.heap.size := by omega
  have hrow := Lib.hid fun (W : World) (v2 : Value) (l2 : Row) (hW : Wn B wb w0 W v v2 l2) => And.intro (RowsAt.wn (ha.kept hbE) hW hap) (apart_on ha hbE hap hW)
  have hbx := Lib.hid fun (W : World) (v2 : Value) (l2 : Row) (hW : Wn B wb w0 W v v2 l2) => (hW.block hgE hneW hneV).trans hboxE
  obtain ⟨l0, hl0⟩ : ∃ l0, l = l0 := ⟨_, rfl⟩
  obtain ⟨v0, hv0⟩ : ∃ v0, v = v0 := ⟨_, rfl⟩
  have hid0 : Hid (Wn B wb w0 w0 v v0 l0) := Lib.hid (by rw [← hl0, ← hv0]; exact Wn.refl hW0.out.at_)
  have n0 : l0.length ≤ l.length := by rw [hl0]; exact Nat.le_refl _
  have Q0 := Lib.hid hl0
  have hBE' := Lib.hid hBE
  clear hboxE hbE hneW hneV h hl0 hv0
  go_enter Try.func39, Try.ntmps39
  have c0 := Lib.cell_of_heap (hbx.out w0 v0 l0 hid0.out) 0
  have cT := numberW_any w0 B wb v0 l0 c.op hid0.out.at_ (by omega) (Nat.le_trans hBB hid0.out.size)
  go_wp2_with fail
  go_at_call 43
  refine cT.mono ?_
  rintro e w1 ⟨rfl, v1, h1⟩
  obtain ⟨l1, q1⟩ : ∃ y, l0 ++ wrd c.op = y := ⟨_, rfl⟩
  rw [q1] at h1
  have n1 : l1.length ≤ l0.length + (8) := by rw [← q1, List.length_append, wrd_len]; exact Nat.le_refl _
  have hid1 := Lib.hid (hid0.out.then h1)
  have Q1 := Lib.hid q1
  clear c0 h1 q1 cT
  have c1_1 := Lib.cell_of_heap (hbx.out w1 v1 l1 hid1.out) 1
  have c1_2 := Lib.cell_of_heap (hbx.out w1 v1 l1 hid1.out) 2
  have c1_3 := Lib.cell_of_heap (hbx.out w1 v1 l1 hid1.out) 3
  have c1_4 := Lib.cell_of_heap (hbx.out w1 v1 l1 hid1.out) 4
  have c1_5 := Lib.cell_of_heap (hbx.out w1 v1 l1 hid1.out) 5
  have c1_6 := Lib.cell_of_heap (hbx.out w1 v1 l1 hid1.out) 6
  obtain ⟨s1_1, hs1_1⟩ : ∃ s : ByteArray, (⟨c.book.toArray⟩ : ByteArray) = s := ⟨_, rfl⟩
  have d1_1 : w1.cell? ⟨BE, 1, none⟩ = some (.string s1_1) := by rw [← hs1_1]; exact c1_1
  obtain ⟨s1_2, hs1_2⟩ : ∃ s : ByteArray, (⟨c.name.toArray⟩ : ByteArray) = s := ⟨_, rfl⟩
  have d1_2 : w1.cell? ⟨BE, 2, none⟩ = some (.string s1_2) := by rw [← hs1_2]; exact c1_2
  obtain ⟨s1_3, hs1_3⟩ : ∃ s : ByteArray, (⟨c.data.toArray⟩ : ByteArray) = s := ⟨_, rfl⟩
  have d1_3 : w1.cell? ⟨BE, 3, none⟩ = some (.string s1_3) := by rw [← hs1_3]; exact c1_3
  obtain ⟨s1_4, hs1_4⟩ : ∃ s : ByteArray, (⟨c.mat.toArray⟩ : ByteArray) = s := ⟨_, rfl⟩
  have d1_4 : w1.cell? ⟨BE, 4, none⟩ = some (.string s1_4) := by rw [← hs1_4]; exact c1_4
  obtain ⟨s1_5, hs1_5⟩ : ∃ s : ByteArray, (⟨c.non.toArray⟩ : ByteArray) = s := ⟨_, rfl⟩
  have d1_5 : w1.cell? ⟨BE, 5, none⟩ = some (.string s1_5) := by rw [← hs1_5]; exact c1_5
  obtain ⟨s1_6, hs1_6⟩ : ∃ s : ByteArray, (⟨c.tok.toArray⟩ : ByteArray) = s := ⟨_, rfl⟩
  have d1_6 : w1.cell? ⟨BE, 6, none⟩ = some (.string s1_6) := by rw [← hs1_6]; exact c1_6
  have hfl : flatN text [c.book, c.name, c.data, c.mat, c.non, c.tok] = (8 + c.book.length) + (8 + c.name.length) + (8 + c.data.length) + (8 + c.mat.length) + (8 + c.non.length) + (8 + c.tok.length) := by simp [flatN, text_len]; try omega
  have hfl' := Lib.hid hfl
  have cT := textsW_any (w1.alloc (.cells #[.string s1_1, .string s1_2, .string s1_3, .string s1_4, .string s1_5, .string s1_6] 9)) B wb v1 l1 (.slice (some ⟨w1.heap.size, 0, none⟩) 6 6) [c.book, c.name, c.data, c.mat, c.non, c.tok] (rows_new (f := sv) (fun _ => rfl) w1 _ [c.book, c.name, c.data, c.mat, c.non, c.tok] 6 rfl (by unfold maxLen; omega) _ (by rw [← hs1_1, ← hs1_2, ← hs1_3, ← hs1_4, ← hs1_5, ← hs1_6]; rfl)) (fun _ => apart_new hid1.out.at_ _ _) (hid1.out.at_.alloc _) (by rw [hfl]; omega) (by have := hid1.out.size; simp; omega)
  clear hfl hs1_1 c1_1 hs1_2 c1_2 hs1_3 c1_3 hs1_4 c1_4 hs1_5 c1_5 hs1_6 c1_6
  go_wp2_with fail
  go_at_call 55
  refine cT.mono ?_
  rintro e w2 ⟨rfl, v2, h2⟩
  obtain ⟨l2, q2⟩ : ∃ y, l1 ++ ([c.book, c.name, c.data, c.mat, c.non, c.tok].map text).flatten = y := ⟨_, rfl⟩
  rw [q2] at h2
  have n2 : l2.length ≤ l1.length + ((8 + c.book.length) + (8 + c.name.length) + (8 + c.data.length) + (8 + c.mat.length) + (8 + c.non.length) + (8 + c.tok.length)) := by rw [← q2, List.length_append, ← hfl'.out]; exact Nat.le_refl _
  have hid2 := Lib.hid (hid1.out.then (Wn.after (below_one _ _) h2))
  have Q2 := Lib.hid q2
  clear d1_1 d1_2 d1_3 d1_4 d1_5 d1_6 h2 q2 cT hfl'
  have c2 := Lib.cell_of_heap (hbx.out w2 v2 l2 hid2.out) 7
  have cT := listStrW_any w2 B wb v2 l2 _ c.names (hrow.out w2 v2 l2 hid2.out).1 (hrow.out w2 v2 l2 hid2.out).2 hid2.out.at_ (by omega) (Nat.le_trans hBB hid2.out.size)
  go_wp2_with fail
  go_at_call 56
  refine cT.mono ?_
  rintro e w3 ⟨rfl, v3, h3⟩
  obtain ⟨l3, q3⟩ : ∃ y, l2 ++ rows text c.names = y := ⟨_, rfl⟩
  rw [q3] at h3
  have n3 : l3.length ≤ l2.length + (8 + flatN text c.names) := by rw [← q3, List.length_append, rows_len]; exact Nat.le_refl _
  have hid3 := Lib.hid (hid2.out.then h3)
  have Q3 := Lib.hid q3
  clear c2 h3 q3 cT
  have c3_8 := Lib.cell_of_heap (hbx.out w3 v3 l3 hid3.out) 8
  have c3_9 := Lib.cell_of_heap (hbx.out w3 v3 l3 hid3.out) 9
  have c3_10 := Lib.cell_of_heap (hbx.out w3 v3 l3 hid3.out) 10
  have hfl : flatN wrd [c.pos, c.ses, c.seq] = 8 + 8 + 8 := by simp [flatN, wrd_len]
  have hfl' := Lib.hid hfl
  have cT := numbersW_any (w3.alloc (.cells #[.int .i64 c.pos, .int .i64 c.ses, .int .i64 c.seq] 3)) B wb v3 l3 (.slice (some ⟨w3.heap.size, 0, none⟩) 3 3) [c.pos, c.ses, c.seq] (rows_new (f := (Value.int .i64)) (fun _ => rfl) w3 _ [c.pos, c.ses, c.seq] 3 rfl (by unfold maxLen; omega) _ rfl) (fun _ => apart_new hid3.out.at_ _ _) (hid3.out.at_.alloc _) (by rw [hfl]; omega) (by have := hid3.out.size; simp; omega)
  clear hfl
  go_wp2_with fail
  go_at_call 58
  refine cT.mono ?_
  rintro e w4 ⟨rfl, v4, h4⟩
  obtain ⟨l4, q4⟩ : ∃ y, l3 ++ ([c.pos, c.ses, c.seq].map wrd).flatten = y := ⟨_, rfl⟩
  rw [q4] at h4
  have n4 : l4.length ≤ l3.length + (8 + 8 + 8) := by rw [← q4, List.length_append, ← hfl'.out]; exact Nat.le_refl _
  have hid4 := Lib.hid (hid3.out.then (Wn.after (below_one _ _) h4))
  have Q4 := Lib.hid q4
  clear c3_8 c3_9 c3_10 h4 q4 cT hfl'
  have hR : l4 = l ++ comB c := by
    rw [← Q4.out, ← Q3.out, ← Q2.out, ← Q1.out, ← Q0.out]
    unfold comB
    simp only [List.append_assoc, List.map_cons, List.map_nil, List.flatten_cons, List.flatten_nil, List.append_nil]
  have hF := Lib.hid (hW0.out.then hid4.out)
  rw [hR] at hF
  clear hR
  go_wp2
  go_end0
  exact ⟨rfl, _, hF.out⟩
end Go.Proofs.Ytpngbfmbjldieaa.Ly
