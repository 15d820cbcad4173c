/-
  CodecPuts: what commands, replies and entries are as bytes, and that they are got back. (Written by tools/genputs.py.)
-/
import Derived.Test.YtacmfglbdbhglaaCodLaw
import Derived.Test.YtacmfglbdbhglaaCodRefRep
import Derived.Test.YtacmfglbdbhglaaCodRefCom
import Derived.Test.YtacmfglbdbhglaaCodRefLog
import Derived.Test.YtacmfglbdbhglaaRegHeld
set_option linter.unusedVariables false
namespace Go.Proofs.Ytacmfglbdbhglaa.Ly
open Go.Lib Go.RowKit
open Bo (Kp Row ownsRow_heap sv sv_data)
open Cd (St endS encS encI encE En enB Rep repS repV rep0 repB okRep cod_rep Com comS comV comC com0 comB okCom cod_com Lg lg0 logS logV logB okLg log_back log_cut RowsAt StrsAt IntsAt EntsAt wrd wrd_len rows flatN comB_len len_flat text_pos enB_pos enB_len refCommand_any refReply_any refLog_any LogR rows_of)

theorem ne_same (x : ByteArray) : (x.toList != x.toList) = false := by simp
theorem eq_same (x : ByteArray) : (x.toList == x.toList) = true := by simp
/-- an own row, wherever it reads -/
theorem strs_own {w : World} {B : Nat} {v : Value} {xs : List Row} (h : w.ownsRow B 9 1 v xs.length (xs.flatMap encS)) : StrsAt w v xs := rows_of (fun _ => rfl) (by decide) h
theorem ints_own {w : World} {B : Nat} {v : Value} {xs : List Int} (h : w.ownsRow B 3 1 v xs.length (xs.flatMap encI)) : IntsAt w v xs := rows_of (fun _ => rfl) (by decide) h
theorem ents_own {w : World} {B : Nat} {v : Value} {xs : List En} (h : w.ownsRow B 80 4 v xs.length (xs.flatMap encE)) : EntsAt w v xs := rows_of (fun _ => rfl) (by decide) h
theorem repB_len (r : Rep) : (repB r).length = 40 + r.data.length + r.tok.length + flatN enB r.ents := by
  unfold repB
  simp only [List.length_append, wrd_len, Cd.text_len, Cd.rows_len]
  omega

set_option maxHeartbeats 32000000 in
set_option maxRecDepth 100000 in
theorem puts_walk (w : World) (l : Lg) (nv ds : Value) (r : Rep) (ev : Value) (ha : StrsAt w nv l.com.names) (hd : IntsAt w ds l.nodes) (he : EntsAt w ev r.ents) (ho : okLg l) (hor : okRep r)
    (hL : 88 + l.com.book.length + l.com.name.length + l.com.data.length + l.com.mat.length + l.com.non.length + l.com.tok.length + flatN text l.com.names ≤ 1073741824) (hD : l.nodes.length ≤ 1073741824) (hR : 88 + r.data.length + r.tok.length + flatN enB r.ents ≤ 1073741824) :
    Calls Try.prog 6 #[logV l nv ds, repV r ev] w fun e w' => e = .returned (.bool true) ∧ Below w.heap.size w w' := by
  have hln := len_flat text_pos l.com.names
  have hle := len_flat enB_pos r.ents
  obtain ⟨A, nb, off, cp, rfl, -, -, -, -⟩ := id ha
  obtain ⟨A2, nb2, off2, cp2, rfl, -, -, -, -⟩ := id hd
  obtain ⟨A3, nb3, off3, cp3, rfl, -, -, -, -⟩ := id he
  obtain ⟨t1, e1⟩ : ∃ t : ByteArray, sv l.com.book = .string t := ⟨_, rfl⟩
  obtain ⟨t2, e2⟩ : ∃ t : ByteArray, sv l.com.name = .string t := ⟨_, rfl⟩
  obtain ⟨t3, e3⟩ : ∃ t : ByteArray, sv l.com.data = .string t := ⟨_, rfl⟩
  obtain ⟨t4, e4⟩ : ∃ t : ByteArray, sv l.com.mat = .string t := ⟨_, rfl⟩
  obtain ⟨t5, e5⟩ : ∃ t : ByteArray, sv l.com.non = .string t := ⟨_, rfl⟩
  obtain ⟨t6, e6⟩ : ∃ t : ByteArray, sv l.com.tok = .string t := ⟨_, rfl⟩
  obtain ⟨t7, e7⟩ : ∃ t : ByteArray, sv r.data = .string t := ⟨_, rfl⟩
  obtain ⟨t8, e8⟩ : ∃ t : ByteArray, sv r.tok = .string t := ⟨_, rfl⟩
  obtain ⟨w1, hw1⟩ : ∃ x, w.alloc (.cells #[.int .i64 l.term, .int .i64 l.kind, .int .i64 l.com.op, .string t1, .string t2, .string t3, .string t4, .string t5, .string t6, .slice A l.com.names.length cp, .int .i64 l.com.pos, .int .i64 l.com.ses, .int .i64 l.com.seq, .slice A2 l.nodes.length cp2] 39) = x := ⟨_, rfl⟩
  obtain ⟨w2, hw2⟩ : ∃ x, w1.alloc (.cells #[.int .i64 r.st, .int .i64 r.tag, .string t7, .slice A3 r.ents.length cp3, .string t8] 45) = x := ⟨_, rfl⟩
  have hb1 : Below w.heap.size w w1 := by rw [← hw1]; exact below_one _ _
  have hb2 : Below w1.heap.size w1 w2 := by rw [← hw2]; exact below_one _ _
  have hbx1 : w1.heap[w.heap.size]? = some (.cells #[.int .i64 l.term, .int .i64 l.kind, .int .i64 l.com.op, .string t1, .string t2, .string t3, .string t4, .string t5, .string t6, .slice A l.com.names.length cp, .int .i64 l.com.pos, .int .i64 l.com.ses, .int .i64 l.com.seq, .slice A2 l.nodes.length cp2] 39 (0, 0)) := by rw [← hw1]; exact heap_alloc_new w _
  have hbx2 : w2.heap[w1.heap.size]? = some (.cells #[.int .i64 r.st, .int .i64 r.tag, .string t7, .slice A3 r.ents.length cp3, .string t8] 45 (0, 0)) := by rw [← hw2]; exact heap_alloc_new w1 _
  have hlt1 := (Array.getElem?_eq_some_iff.1 hbx1).1
  have hlt2 := (Array.getElem?_eq_some_iff.1 hbx2).1
  have hbx1' := (hb2.block _ hlt1).trans hbx1
  have hb12 := hb1.trans (hb2.mono hb1.size)
  obtain ⟨B, hB⟩ : ∃ B, w.heap.size = B := ⟨_, rfl⟩
  obtain ⟨B2, hB2⟩ : ∃ B, w1.heap.size = B := ⟨_, rfl⟩
  rw [hB] at hbx1' hlt1
  rw [hB2] at hbx2 hlt2
  have hlt1' : B < w2.heap.size := (Array.getElem?_eq_some_iff.1 hbx1').1
  have EE := Lib.hid (And.intro e1 (And.intro e2 (And.intro e3 (And.intro e4 (And.intro e5 (And.intro e6 (And.intro e7 e8)))))))
  have hst := Lib.hid fun (W : World) (h : Below w2.heap.size w2 W) => And.intro ((h.block B hlt1').trans hbx1') (And.intro ((h.block B2 hlt2).trans hbx2) (And.intro (hb12.trans (h.mono hb12.size)) (And.intro ((ha.kept hb12).kept h) (And.intro ((hd.kept hb12).kept h) ((he.kept hb12).kept h)))))
  have ho' := Lib.hid ho
  have hor' := Lib.hid hor
  unfold logV repV
  rw [e1, e2, e3, e4, e5, e6, e7, e8]
  clear hb1 hb2 hbx1 hbx2 ha hd he hb12 hbx1' ho hor
  have cF := first_any w2
  go_enter Try.func6, Try.ntmps6
  go_wp2_with fail
  go_at_call 7
  refine cF.mono ?_
  rintro e w3 ⟨rfl, hb3⟩
  have hs3 := hst.out w3 hb3
  have d0 : w3.cell? ⟨B, 0, none⟩ = some (.int .i64 l.term) := Lib.cell_of_heap hs3.1 0
  have d1 : w3.cell? ⟨B, 1, none⟩ = some (.int .i64 l.kind) := Lib.cell_of_heap hs3.1 1
  have d2 : w3.cell? ⟨B, 2, none⟩ = some (.int .i64 l.com.op) := Lib.cell_of_heap hs3.1 2
  have d3 : w3.cell? ⟨B, 3, none⟩ = some (.string t1) := Lib.cell_of_heap hs3.1 3
  have d4 : w3.cell? ⟨B, 4, none⟩ = some (.string t2) := Lib.cell_of_heap hs3.1 4
  have d5 : w3.cell? ⟨B, 5, none⟩ = some (.string t3) := Lib.cell_of_heap hs3.1 5
  have d6 : w3.cell? ⟨B, 6, none⟩ = some (.string t4) := Lib.cell_of_heap hs3.1 6
  have d7 : w3.cell? ⟨B, 7, none⟩ = some (.string t5) := Lib.cell_of_heap hs3.1 7
  have d8 : w3.cell? ⟨B, 8, none⟩ = some (.string t6) := Lib.cell_of_heap hs3.1 8
  have d9 : w3.cell? ⟨B, 9, none⟩ = some (.slice A l.com.names.length cp) := Lib.cell_of_heap hs3.1 9
  have d10 : w3.cell? ⟨B, 10, none⟩ = some (.int .i64 l.com.pos) := Lib.cell_of_heap hs3.1 10
  have d11 : w3.cell? ⟨B, 11, none⟩ = some (.int .i64 l.com.ses) := Lib.cell_of_heap hs3.1 11
  have d12 : w3.cell? ⟨B, 12, none⟩ = some (.int .i64 l.com.seq) := Lib.cell_of_heap hs3.1 12
  have d13 : w3.cell? ⟨B, 13, none⟩ = some (.slice A2 l.nodes.length cp2) := Lib.cell_of_heap hs3.1 13
  have g3 : w3.cell? ⟨B2, 3, none⟩ = some (.slice A3 r.ents.length cp3) := Lib.cell_of_heap hs3.2.1 3
  obtain ⟨s1, hs1⟩ : ∃ s, l.com.names.length + l.nodes.length = s := ⟨_, rfl⟩
  obtain ⟨s2, hs2⟩ : ∃ s, s1 + r.ents.length = s := ⟨_, rfl⟩
  have a1 : (l.com.names.length : Int) + (l.nodes.length : Int) = (s1 : Int) := by omega
  have a2 : (s1 : Int) + (r.ents.length : Int) = (s2 : Int) := by omega
  have a3 : IntKind.i64.wrap (s1 : Int) = (s1 : Int) := by rw [IntKind.wrap_i64]; omega
  have a4 : IntKind.i64.wrap (s2 : Int) = (s2 : Int) := by rw [IntKind.wrap_i64]; omega
  have hb3' := Lib.hid hb3
  by_cases h300 : 300 < s2
  · have g1 : decide (300 < s2) = true := decide_eq_true h300
    have g2 : decide ((300 : Int) < (s2 : Int)) = true := decide_eq_true (by omega)
    have hF := Lib.hid hs3.2.2.1
    clear hb3 h300 cF hs3 hs1 hs2
    go_wp2
    go_ret
    exact ⟨rfl, hF.out⟩
  have g1 : decide (300 < s2) = false := decide_eq_false h300
  have g2 : decide ((300 : Int) < (s2 : Int)) = false := decide_eq_false (by omega)
  have cP := putCom_any w3 l.com _ hs3.2.2.2.1 (by omega)
  unfold comV comC at cP
  rw [e1, e2, e3, e4, e5, e6] at cP
  clear hb3 h300 cF hs3 hs1 hs2
  go_wp2_with fail
  go_at_call 8
  refine cP.mono ?_
  rintro e w4 ⟨v5, rfl, hO, hb4⟩
  have cG := getCom_any w4 v5 (comB l.com) hO.bin (by rw [comB_len]; omega)
  rw [got_com ho'.out.2.1] at cG
  dsimp only at cG
  unfold comV comC at cG
  rw [e1, e2, e3, e4, e5, e6] at cG
  obtain ⟨a5, n5, c5, rfl⟩ : ∃ a n c, v5 = .slice a n c := by obtain ⟨a, c, e⟩ := hO.form; exact ⟨_, _, _, e⟩
  have hb4' := Lib.hid (hb3'.out.trans (hb4.mono hb3'.out.size))
  have hO5 := Lib.hid hO
  clear cP hO hb4 d0 d1 d2 d3 d4 d5 d6 d7 d8 d9 d10 d11 d12 d13 g3 a1 a2 a3 a4
  go_wp2_with fail
  go_at_call 9
  refine cG.mono ?_
  rintro e w5 ⟨nv6, rfl, hO6, hb5⟩
  obtain ⟨a6, c6, rfl⟩ := own_form hO6
  have hb5' := Lib.hid (hb4'.out.trans (hb5.mono hb4'.out.size))
  have hO5b := Lib.hid (hO5.out.kept hb5)
  go_upto_region 7 with fail
  obtain ⟨w6, hw6⟩ : ∃ x, w5.alloc (.cells #[.int .i64 l.com.op, .string t1, .string t2, .string t3, .string t4, .string t5, .string t6, .slice a6 l.com.names.length c6, .int .i64 l.com.pos, .int .i64 l.com.ses, .int .i64 l.com.seq] 25) = x := ⟨_, rfl⟩
  have hb : Below w5.heap.size w5 w6 := by rw [← hw6]; exact below_one _ _
  have hbx : w6.heap[w5.heap.size]? = some (.cells #[.int .i64 l.com.op, .string t1, .string t2, .string t3, .string t4, .string t5, .string t6, .slice a6 l.com.names.length c6, .int .i64 l.com.pos, .int .i64 l.com.ses, .int .i64 l.com.seq] 25 (0, 0)) := by rw [← hw6]; exact heap_alloc_new w5 _
  have hltx := (Array.getElem?_eq_some_iff.1 hbx).1
  rw [hw6]
  have hb6' := Lib.hid (hb5'.out.trans (hb.mono hb5'.out.size))
  have hOc := hO5b.out.kept hb
  have hSx := (strs_own hO6).kept hb
  obtain ⟨C6, hC6⟩ : ∃ x, w5.heap.size = x := ⟨_, rfl⟩
  rw [hC6] at hbx hltx ⊢
  have hsx0 := hst.out w6 hb6'.out
  obtain ⟨sx, hsx⟩ : ∃ x : ByteArray, (⟨(comB l.com).toArray⟩ : ByteArray) = x := ⟨_, rfl⟩
  have kv : ∀ W, Below w6.heap.size w6 W → (convert 28 9 (.slice a5 n5 c5)).run Try.prog W = .ok (.string sx) W := fun W h => by rw [← hsx]; exact conv_own (hOc.kept h)
  have hS : ∀ W, Below w6.heap.size w6 W → Below w6.heap.size w6 W ∧ W.cell? ⟨B, 2, none⟩ = some (.int .i64 l.com.op) ∧ W.cell? ⟨B, 3, none⟩ = some (.string t1) ∧ W.cell? ⟨B, 4, none⟩ = some (.string t2) ∧ W.cell? ⟨B, 5, none⟩ = some (.string t3) ∧ W.cell? ⟨B, 6, none⟩ = some (.string t4) ∧ W.cell? ⟨B, 7, none⟩ = some (.string t5) ∧ W.cell? ⟨B, 8, none⟩ = some (.string t6) ∧ W.cell? ⟨B, 9, none⟩ = some (.slice A l.com.names.length cp) ∧ W.cell? ⟨B, 10, none⟩ = some (.int .i64 l.com.pos) ∧ W.cell? ⟨B, 11, none⟩ = some (.int .i64 l.com.ses) ∧ W.cell? ⟨B, 12, none⟩ = some (.int .i64 l.com.seq) ∧ W.cell? ⟨C6, 0, none⟩ = some (.int .i64 l.com.op) ∧ W.cell? ⟨C6, 1, none⟩ = some (.string t1) ∧ W.cell? ⟨C6, 2, none⟩ = some (.string t2) ∧ W.cell? ⟨C6, 3, none⟩ = some (.string t3) ∧ W.cell? ⟨C6, 4, none⟩ = some (.string t4) ∧ W.cell? ⟨C6, 5, none⟩ = some (.string t5) ∧ W.cell? ⟨C6, 6, none⟩ = some (.string t6) ∧ W.cell? ⟨C6, 7, none⟩ = some (.slice a6 l.com.names.length c6) ∧ W.cell? ⟨C6, 8, none⟩ = some (.int .i64 l.com.pos) ∧ W.cell? ⟨C6, 9, none⟩ = some (.int .i64 l.com.ses) ∧ W.cell? ⟨C6, 10, none⟩ = some (.int .i64 l.com.seq) := fun W h => by
    have h1 := (h.block B (by have := hb6'.out.size; omega)).trans hsx0.1
    have h2 := (h.block C6 hltx).trans hbx
    exact ⟨h, Lib.cell_of_heap h1 2, Lib.cell_of_heap h1 3, Lib.cell_of_heap h1 4, Lib.cell_of_heap h1 5, Lib.cell_of_heap h1 6, Lib.cell_of_heap h1 7, Lib.cell_of_heap h1 8, Lib.cell_of_heap h1 9, Lib.cell_of_heap h1 10, Lib.cell_of_heap h1 11, Lib.cell_of_heap h1 12, Lib.cell_of_heap h2 0, Lib.cell_of_heap h2 1, Lib.cell_of_heap h2 2, Lib.cell_of_heap h2 3, Lib.cell_of_heap h2 4, Lib.cell_of_heap h2 5, Lib.cell_of_heap h2 6, Lib.cell_of_heap h2 7, Lib.cell_of_heap h2 8, Lib.cell_of_heap h2 9, Lib.cell_of_heap h2 10⟩
  have cR1 : ∀ W, Below w6.heap.size w6 W → Calls Try.prog 19 #[.agg #[.int .i64 l.com.op, .string t1, .string t2, .string t3, .string t4, .string t5, .string t6, .slice A l.com.names.length cp, .int .i64 l.com.pos, .int .i64 l.com.ses, .int .i64 l.com.seq]] W fun e w' => ∃ u, e = .returned u ∧ (∀ W', Below w'.heap.size w' W' → (convert 28 9 u).run Try.prog W' = .ok (.string sx) W') ∧ (∀ W', Below w'.heap.size w' W' → (convert 28 9 (.slice a5 n5 c5)).run Try.prog W' = .ok (.string sx) W') ∧ Below w6.heap.size w6 w' ∧ Below W.heap.size W w' := fun W h => by
    have c := refCommand_any W l.com _ (hsx0.2.2.2.1.kept h) (by omega)
    unfold comV comC at c
    rw [e1, e2, e3, e4, e5, e6] at c
    refine c.mono ?_
    rintro e w' ⟨u, rfl, hu, hb⟩
    have hz := h.trans (hb.mono h.size)
    exact ⟨u, rfl, fun W' h' => by rw [← hsx]; exact conv_own (hu.kept h'), fun W' h' => kv W' (hz.trans (h'.mono hz.size)), hz, hb⟩
  have cR2 : ∀ W, Below w6.heap.size w6 W → Calls Try.prog 19 #[.agg #[.int .i64 l.com.op, .string t1, .string t2, .string t3, .string t4, .string t5, .string t6, .slice a6 l.com.names.length c6, .int .i64 l.com.pos, .int .i64 l.com.ses, .int .i64 l.com.seq]] W fun e w' => ∃ u, e = .returned u ∧ (∀ W', Below w'.heap.size w' W' → (convert 28 9 u).run Try.prog W' = .ok (.string sx) W') ∧ (∀ W', Below w'.heap.size w' W' → (convert 28 9 (.slice a5 n5 c5)).run Try.prog W' = .ok (.string sx) W') ∧ Below w6.heap.size w6 w' ∧ Below W.heap.size W w' := fun W h => by
    have c := refCommand_any W l.com _ (hSx.kept h) (by omega)
    unfold comV comC at c
    rw [e1, e2, e3, e4, e5, e6] at c
    refine c.mono ?_
    rintro e w' ⟨u, rfl, hu, hb⟩
    have hz := h.trans (hb.mono h.size)
    exact ⟨u, rfl, fun W' h' => by rw [← hsx]; exact conv_own (hu.kept h'), fun W' h' => kv W' (hz.trans (h'.mono hz.size)), hz, hb⟩
  have kv0 := kv w6.drew (Below.drew (Below.refl _ _))
  have qs : (sx.toList != sx.toList) = false := ne_same sx
  have hS' := Lib.hid hS
  have cR1' := Lib.hid cR1
  have cR2' := Lib.hid cR2
  clear hOc hSx hsx0 hsx hS cR1 cR2 hb hbx hw6
  refine wp_region_held_drew (S := fun W => Below w6.heap.size w6 W ∧ W.cell? ⟨B, 2, none⟩ = some (.int .i64 l.com.op) ∧ W.cell? ⟨B, 3, none⟩ = some (.string t1) ∧ W.cell? ⟨B, 4, none⟩ = some (.string t2) ∧ W.cell? ⟨B, 5, none⟩ = some (.string t3) ∧ W.cell? ⟨B, 6, none⟩ = some (.string t4) ∧ W.cell? ⟨B, 7, none⟩ = some (.string t5) ∧ W.cell? ⟨B, 8, none⟩ = some (.string t6) ∧ W.cell? ⟨B, 9, none⟩ = some (.slice A l.com.names.length cp) ∧ W.cell? ⟨B, 10, none⟩ = some (.int .i64 l.com.pos) ∧ W.cell? ⟨B, 11, none⟩ = some (.int .i64 l.com.ses) ∧ W.cell? ⟨B, 12, none⟩ = some (.int .i64 l.com.seq) ∧ W.cell? ⟨C6, 0, none⟩ = some (.int .i64 l.com.op) ∧ W.cell? ⟨C6, 1, none⟩ = some (.string t1) ∧ W.cell? ⟨C6, 2, none⟩ = some (.string t2) ∧ W.cell? ⟨C6, 3, none⟩ = some (.string t3) ∧ W.cell? ⟨C6, 4, none⟩ = some (.string t4) ∧ W.cell? ⟨C6, 5, none⟩ = some (.string t5) ∧ W.cell? ⟨C6, 6, none⟩ = some (.string t6) ∧ W.cell? ⟨C6, 7, none⟩ = some (.slice a6 l.com.names.length c6) ∧ W.cell? ⟨C6, 8, none⟩ = some (.int .i64 l.com.pos) ∧ W.cell? ⟨C6, 9, none⟩ = some (.int .i64 l.com.ses) ∧ W.cell? ⟨C6, 10, none⟩ = some (.int .i64 l.com.seq)) (by kernel_rfl) (hS'.out _ (Below.drew (Below.refl _ _))) (fun hHeld => ?_)
  refine wpAnyH_take (i := 0) (oi := ?o7_0) (v := ?v7_0) ?hi7_0 (by kernel_rfl) (by kernel_rfl) (by kernel_rfl) ?hq7_0 (Or.inl ⟨?hw7_0, ?hy7_0⟩) (by assumption) ?_
  case hi7_0 => (simp only [List.getElem?_toArray, List.getElem?_cons_zero]; rfl)
  case hq7_0 => exact fun _ _ _ h => h
  case hw7_0 => rfl
  case hy7_0 => (intro w hSw; (try dsimp only at hSw); go_simp; (try with_reducible rfl))
  try simp only [Act.put, List.setIfInBounds_toArray, List.set_cons_zero, List.set_cons_succ]
  refine wpAnyH_take (i := 1) (oi := ?o7_1) (v := ?v7_1) ?hi7_1 (by kernel_rfl) (by kernel_rfl) (by kernel_rfl) ?hq7_1 (Or.inl ⟨?hw7_1, ?hy7_1⟩) (by assumption) ?_
  case hi7_1 => (simp only [List.getElem?_toArray, List.getElem?_cons_succ, List.getElem?_cons_zero]; rfl)
  case hq7_1 => exact fun _ _ _ h => h
  case hw7_1 => rfl
  case hy7_1 => (intro w hSw; (try dsimp only at hSw); go_simp; (try with_reducible rfl))
  try simp only [Act.put, List.setIfInBounds_toArray, List.set_cons_zero, List.set_cons_succ]
  refine wpAnyH_take (i := 2) (oi := ?o7_2) (v := ?v7_2) ?hi7_2 (by kernel_rfl) (by kernel_rfl) (by kernel_rfl) ?hq7_2 (Or.inl ⟨?hw7_2, ?hy7_2⟩) (by assumption) ?_
  case hi7_2 => (simp only [List.getElem?_toArray, List.getElem?_cons_succ, List.getElem?_cons_zero]; rfl)
  case hq7_2 => exact fun _ _ _ h => h
  case hw7_2 => rfl
  case hy7_2 => (intro w hSw; (try dsimp only at hSw); go_simp; (try with_reducible rfl))
  try simp only [Act.put, List.setIfInBounds_toArray, List.set_cons_zero, List.set_cons_succ]
  refine wpAnyH_take (i := 3) (oi := ?o7_3) (v := ?v7_3) ?hi7_3 (by kernel_rfl) (by kernel_rfl) (by kernel_rfl) ?hq7_3 (Or.inl ⟨?hw7_3, ?hy7_3⟩) (by assumption) ?_
  case hi7_3 => (simp only [List.getElem?_toArray, List.getElem?_cons_succ, List.getElem?_cons_zero]; rfl)
  case hq7_3 => exact fun _ _ _ h => h
  case hw7_3 => rfl
  case hy7_3 => (intro w hSw; (try dsimp only at hSw); go_simp; (try with_reducible rfl))
  try simp only [Act.put, List.setIfInBounds_toArray, List.set_cons_zero, List.set_cons_succ]
  refine wpAnyH_ready (rs := [4]) (by kernel_rfl) (by simp) ?_
  refine AllReadyH.cons (o := _) rfl (fun K hK => ?_) AllReadyH.nil
  go_simp
  with_reducible refine (cR1'.out _ (Below.drew (Below.refl _ _))).mono ?_
  rintro e w7 ⟨u1, rfl, k1, kv1, hz1, -⟩
  refine hK.out _ _ (hS'.out _ hz1) (fun _ => ?_)
  clear hK K hHeld
  try simp only [Act.put, List.setIfInBounds_toArray, List.set_cons_zero, List.set_cons_succ]
  refine Rh.wpAnyH_mono (S' := fun W => Below w7.heap.size w7 W ∧ W.cell? ⟨C6, 0, none⟩ = some (.int .i64 l.com.op) ∧ W.cell? ⟨C6, 1, none⟩ = some (.string t1) ∧ W.cell? ⟨C6, 2, none⟩ = some (.string t2) ∧ W.cell? ⟨C6, 3, none⟩ = some (.string t3) ∧ W.cell? ⟨C6, 4, none⟩ = some (.string t4) ∧ W.cell? ⟨C6, 5, none⟩ = some (.string t5) ∧ W.cell? ⟨C6, 6, none⟩ = some (.string t6) ∧ W.cell? ⟨C6, 7, none⟩ = some (.slice a6 l.com.names.length c6) ∧ W.cell? ⟨C6, 8, none⟩ = some (.int .i64 l.com.pos) ∧ W.cell? ⟨C6, 9, none⟩ = some (.int .i64 l.com.ses) ∧ W.cell? ⟨C6, 10, none⟩ = some (.int .i64 l.com.seq)) (fun W h => hS'.out W (hz1.trans (h.1.mono hz1.size))) _ _ _ _ ?_
  have hHeld : Below w7.heap.size w7 w7 ∧ w7.cell? ⟨C6, 0, none⟩ = some (.int .i64 l.com.op) ∧ w7.cell? ⟨C6, 1, none⟩ = some (.string t1) ∧ w7.cell? ⟨C6, 2, none⟩ = some (.string t2) ∧ w7.cell? ⟨C6, 3, none⟩ = some (.string t3) ∧ w7.cell? ⟨C6, 4, none⟩ = some (.string t4) ∧ w7.cell? ⟨C6, 5, none⟩ = some (.string t5) ∧ w7.cell? ⟨C6, 6, none⟩ = some (.string t6) ∧ w7.cell? ⟨C6, 7, none⟩ = some (.slice a6 l.com.names.length c6) ∧ w7.cell? ⟨C6, 8, none⟩ = some (.int .i64 l.com.pos) ∧ w7.cell? ⟨C6, 9, none⟩ = some (.int .i64 l.com.ses) ∧ w7.cell? ⟨C6, 10, none⟩ = some (.int .i64 l.com.seq) := by
    have h := hS'.out w7 hz1
    exact ⟨Below.refl _ _, h.2.2.2.2.2.2.2.2.2.2.2.2.1, h.2.2.2.2.2.2.2.2.2.2.2.2.2.1, h.2.2.2.2.2.2.2.2.2.2.2.2.2.2.1, h.2.2.2.2.2.2.2.2.2.2.2.2.2.2.2.1, h.2.2.2.2.2.2.2.2.2.2.2.2.2.2.2.2.1, h.2.2.2.2.2.2.2.2.2.2.2.2.2.2.2.2.2.1, h.2.2.2.2.2.2.2.2.2.2.2.2.2.2.2.2.2.2.1, h.2.2.2.2.2.2.2.2.2.2.2.2.2.2.2.2.2.2.2.1, h.2.2.2.2.2.2.2.2.2.2.2.2.2.2.2.2.2.2.2.2.1, h.2.2.2.2.2.2.2.2.2.2.2.2.2.2.2.2.2.2.2.2.2.1, h.2.2.2.2.2.2.2.2.2.2.2.2.2.2.2.2.2.2.2.2.2.2⟩
  refine wpAnyH_take (i := 5) (oi := ?o7_5) (v := ?v7_5) ?hi7_5 (by kernel_rfl) (by kernel_rfl) (by kernel_rfl) ?hq7_5 (Or.inl ⟨?hw7_5, ?hy7_5⟩) (by assumption) ?_
  case hi7_5 => (simp only [List.getElem?_toArray, List.getElem?_cons_succ, List.getElem?_cons_zero]; rfl)
  case hq7_5 => exact fun _ _ _ h => h
  case hw7_5 => rfl
  case hy7_5 => (intro w hSw; (try dsimp only at hSw); go_simp; (try with_reducible rfl))
  try simp only [Act.put, List.setIfInBounds_toArray, List.set_cons_zero, List.set_cons_succ]
  refine wpAnyH_take (i := 6) (oi := ?o7_6) (v := ?v7_6) ?hi7_6 (by kernel_rfl) (by kernel_rfl) (by kernel_rfl) ?hq7_6 (Or.inl ⟨?hw7_6, ?hy7_6⟩) (by assumption) ?_
  case hi7_6 => (simp only [List.getElem?_toArray, List.getElem?_cons_succ, List.getElem?_cons_zero]; rfl)
  case hq7_6 => exact fun _ _ _ h => h
  case hw7_6 => rfl
  case hy7_6 => (intro w hSw; (try dsimp only at hSw); go_simp; (try with_reducible rfl))
  try simp only [Act.put, List.setIfInBounds_toArray, List.set_cons_zero, List.set_cons_succ]
  refine wpAnyH_take (i := 7) (oi := ?o7_7) (v := ?v7_7) ?hi7_7 (by kernel_rfl) (by kernel_rfl) (by kernel_rfl) ?hq7_7 (Or.inl ⟨?hw7_7, ?hy7_7⟩) (by assumption) ?_
  case hi7_7 => (simp only [List.getElem?_toArray, List.getElem?_cons_succ, List.getElem?_cons_zero]; rfl)
  case hq7_7 => exact fun _ _ _ h => h
  case hw7_7 => rfl
  case hy7_7 => (intro w hSw; (try dsimp only at hSw); go_simp; (try with_reducible rfl))
  try simp only [Act.put, List.setIfInBounds_toArray, List.set_cons_zero, List.set_cons_succ]
  refine wpAnyH_take (i := 8) (oi := ?o7_8) (v := ?v7_8) ?hi7_8 (by kernel_rfl) (by kernel_rfl) (by kernel_rfl) ?hq7_8 (Or.inl ⟨?hw7_8, ?hy7_8⟩) (by assumption) ?_
  case hi7_8 => (simp only [List.getElem?_toArray, List.getElem?_cons_succ, List.getElem?_cons_zero]; rfl)
  case hq7_8 => exact fun _ _ _ h => h
  case hw7_8 => rfl
  case hy7_8 => (intro w hSw; (try dsimp only at hSw); go_simp; (try with_reducible rfl))
  try simp only [Act.put, List.setIfInBounds_toArray, List.set_cons_zero, List.set_cons_succ]
  refine wpAnyH_take (i := 9) (oi := ?o7_9) (v := ?v7_9) ?hi7_9 (by kernel_rfl) (by kernel_rfl) (by kernel_rfl) ?hq7_9 (Or.inl ⟨?hw7_9, ?hy7_9⟩) (by assumption) ?_
  case hi7_9 => (simp only [List.getElem?_toArray, List.getElem?_cons_succ, List.getElem?_cons_zero]; rfl)
  case hq7_9 => exact fun _ _ _ h => h
  case hw7_9 => rfl
  case hy7_9 => (intro w hSw; (try dsimp only at hSw); go_simp; (try with_reducible rfl))
  try simp only [Act.put, List.setIfInBounds_toArray, List.set_cons_zero, List.set_cons_succ]
  refine wpAnyH_take (i := 10) (oi := ?o7_10) (v := ?v7_10) ?hi7_10 (by kernel_rfl) (by kernel_rfl) (by kernel_rfl) ?hq7_10 (Or.inl ⟨?hw7_10, ?hy7_10⟩) (by assumption) ?_
  case hi7_10 => (simp only [List.getElem?_toArray, List.getElem?_cons_succ, List.getElem?_cons_zero]; rfl)
  case hq7_10 => exact fun _ _ _ h => h
  case hw7_10 => rfl
  case hy7_10 => (intro w hSw; (try dsimp only at hSw); go_simp; (try with_reducible rfl))
  try simp only [Act.put, List.setIfInBounds_toArray, List.set_cons_zero, List.set_cons_succ]
  refine wpAnyH_take (i := 11) (oi := ?o7_11) (v := ?v7_11) ?hi7_11 (by kernel_rfl) (by kernel_rfl) (by kernel_rfl) ?hq7_11 (Or.inl ⟨?hw7_11, ?hy7_11⟩) (by assumption) ?_
  case hi7_11 => (simp only [List.getElem?_toArray, List.getElem?_cons_succ, List.getElem?_cons_zero]; rfl)
  case hq7_11 => exact fun _ _ _ h => h
  case hw7_11 => rfl
  case hy7_11 => (intro w hSw; (try dsimp only at hSw); go_simp; (try with_reducible rfl))
  try simp only [Act.put, List.setIfInBounds_toArray, List.set_cons_zero, List.set_cons_succ]
  refine wpAnyH_take (i := 12) (oi := ?o7_12) (v := ?v7_12) ?hi7_12 (by kernel_rfl) (by kernel_rfl) (by kernel_rfl) ?hq7_12 (Or.inl ⟨?hw7_12, ?hy7_12⟩) (by assumption) ?_
  case hi7_12 => (simp only [List.getElem?_toArray, List.getElem?_cons_succ, List.getElem?_cons_zero]; rfl)
  case hq7_12 => exact fun _ _ _ h => h
  case hw7_12 => rfl
  case hy7_12 => (intro w hSw; (try dsimp only at hSw); go_simp; (try with_reducible rfl))
  try simp only [Act.put, List.setIfInBounds_toArray, List.set_cons_zero, List.set_cons_succ]
  refine wpAnyH_take (i := 15) (oi := ?o7_15) (v := ?v7_15) ?hi7_15 (by kernel_rfl) (by kernel_rfl) (by kernel_rfl) ?hq7_15 (Or.inl ⟨?hw7_15, ?hy7_15⟩) (by assumption) ?_
  case hi7_15 => (simp only [List.getElem?_toArray, List.getElem?_cons_succ, List.getElem?_cons_zero]; rfl)
  case hq7_15 => exact fun _ _ _ h => h
  case hw7_15 => rfl
  case hy7_15 => (intro w hSw; (try dsimp only at hSw); go_simp; (try with_reducible rfl))
  try simp only [Act.put, List.setIfInBounds_toArray, List.set_cons_zero, List.set_cons_succ]
  refine wpAnyH_take (i := 16) (oi := ?o7_16) (v := ?v7_16) ?hi7_16 (by kernel_rfl) (by kernel_rfl) (by kernel_rfl) ?hq7_16 (Or.inl ⟨?hw7_16, ?hy7_16⟩) (by assumption) ?_
  case hi7_16 => (simp only [List.getElem?_toArray, List.getElem?_cons_succ, List.getElem?_cons_zero]; rfl)
  case hq7_16 => exact fun _ _ _ h => h
  case hw7_16 => rfl
  case hy7_16 => (intro w hSw; (try dsimp only at hSw); go_simp; (try with_reducible rfl))
  try simp only [Act.put, List.setIfInBounds_toArray, List.set_cons_zero, List.set_cons_succ]
  refine wpAnyH_ready (rs := [13]) (by kernel_rfl) (by simp) ?_
  refine AllReadyH.cons (o := _) rfl (fun K hK => ?_) AllReadyH.nil
  go_simp
  with_reducible refine (cR2'.out _ hz1).mono ?_
  rintro e w8 ⟨u2, rfl, k2, kv2, hz2, hz12⟩
  have hHeld2 : Below w7.heap.size w7 w8 ∧ w8.cell? ⟨C6, 0, none⟩ = some (.int .i64 l.com.op) ∧ w8.cell? ⟨C6, 1, none⟩ = some (.string t1) ∧ w8.cell? ⟨C6, 2, none⟩ = some (.string t2) ∧ w8.cell? ⟨C6, 3, none⟩ = some (.string t3) ∧ w8.cell? ⟨C6, 4, none⟩ = some (.string t4) ∧ w8.cell? ⟨C6, 5, none⟩ = some (.string t5) ∧ w8.cell? ⟨C6, 6, none⟩ = some (.string t6) ∧ w8.cell? ⟨C6, 7, none⟩ = some (.slice a6 l.com.names.length c6) ∧ w8.cell? ⟨C6, 8, none⟩ = some (.int .i64 l.com.pos) ∧ w8.cell? ⟨C6, 9, none⟩ = some (.int .i64 l.com.ses) ∧ w8.cell? ⟨C6, 10, none⟩ = some (.int .i64 l.com.seq) := by
    have h := hS'.out w8 hz2
    exact ⟨hz12, h.2.2.2.2.2.2.2.2.2.2.2.2.1, h.2.2.2.2.2.2.2.2.2.2.2.2.2.1, h.2.2.2.2.2.2.2.2.2.2.2.2.2.2.1, h.2.2.2.2.2.2.2.2.2.2.2.2.2.2.2.1, h.2.2.2.2.2.2.2.2.2.2.2.2.2.2.2.2.1, h.2.2.2.2.2.2.2.2.2.2.2.2.2.2.2.2.2.1, h.2.2.2.2.2.2.2.2.2.2.2.2.2.2.2.2.2.2.1, h.2.2.2.2.2.2.2.2.2.2.2.2.2.2.2.2.2.2.2.1, h.2.2.2.2.2.2.2.2.2.2.2.2.2.2.2.2.2.2.2.2.1, h.2.2.2.2.2.2.2.2.2.2.2.2.2.2.2.2.2.2.2.2.2.1, h.2.2.2.2.2.2.2.2.2.2.2.2.2.2.2.2.2.2.2.2.2.2⟩
  refine hK.out _ _ hHeld2 (fun _ => ?_)
  clear hK K hHeld hHeld2
  try simp only [Act.put, List.setIfInBounds_toArray, List.set_cons_zero, List.set_cons_succ]
  refine Rh.wpAnyH_mono (S' := fun W => Below w8.heap.size w8 W) (fun W h => by
    have h' := hS'.out W (hz2.trans (h.mono hz2.size))
    exact ⟨hz12.trans (h.mono hz12.size), h'.2.2.2.2.2.2.2.2.2.2.2.2.1, h'.2.2.2.2.2.2.2.2.2.2.2.2.2.1, h'.2.2.2.2.2.2.2.2.2.2.2.2.2.2.1, h'.2.2.2.2.2.2.2.2.2.2.2.2.2.2.2.1, h'.2.2.2.2.2.2.2.2.2.2.2.2.2.2.2.2.1, h'.2.2.2.2.2.2.2.2.2.2.2.2.2.2.2.2.2.1, h'.2.2.2.2.2.2.2.2.2.2.2.2.2.2.2.2.2.2.1, h'.2.2.2.2.2.2.2.2.2.2.2.2.2.2.2.2.2.2.2.1, h'.2.2.2.2.2.2.2.2.2.2.2.2.2.2.2.2.2.2.2.2.1, h'.2.2.2.2.2.2.2.2.2.2.2.2.2.2.2.2.2.2.2.2.2.1, h'.2.2.2.2.2.2.2.2.2.2.2.2.2.2.2.2.2.2.2.2.2.2⟩) _ _ _ _ ?_
  have hHeld : Below w8.heap.size w8 w8 := Below.refl _ _
  refine wpAnyH_take (i := 14) (oi := ?o7_14) (v := ?v7_14) ?hi7_14 (by kernel_rfl) (by kernel_rfl) (by kernel_rfl) ?hq7_14 (Or.inl ⟨?hw7_14, ?hy7_14⟩) (by assumption) ?_
  case hi7_14 => (simp only [List.getElem?_toArray, List.getElem?_cons_succ, List.getElem?_cons_zero]; rfl)
  case hq7_14 => exact fun _ _ _ h => h
  case hw7_14 => rfl
  case hy7_14 => (intro w hSw; (try dsimp only at hSw); go_simp; (try with_reducible rfl))
  try simp only [Act.put, List.setIfInBounds_toArray, List.set_cons_zero, List.set_cons_succ]
  refine wpAnyH_take (i := 17) (oi := ?o7_17) (v := ?v7_17) ?hi7_17 (by kernel_rfl) (by kernel_rfl) (by kernel_rfl) ?hq7_17 (Or.inl ⟨?hw7_17, ?hy7_17⟩) (by assumption) ?_
  case hi7_17 => (simp only [List.getElem?_toArray, List.getElem?_cons_succ, List.getElem?_cons_zero]; rfl)
  case hq7_17 => exact fun _ _ _ h => h
  case hw7_17 => rfl
  case hy7_17 => (intro w hSw; (try dsimp only at hSw); go_simp; (try with_reducible rfl))
  try simp only [Act.put, List.setIfInBounds_toArray, List.set_cons_zero, List.set_cons_succ]
  refine wpAnyH_take (i := 18) (oi := ?o7_18) (v := ?v7_18) ?hi7_18 (by kernel_rfl) (by kernel_rfl) (by kernel_rfl) ?hq7_18 (Or.inl ⟨?hw7_18, ?hy7_18⟩) (by assumption) ?_
  case hi7_18 => (simp only [List.getElem?_toArray, List.getElem?_cons_succ, List.getElem?_cons_zero]; rfl)
  case hq7_18 => exact fun _ _ _ h => h
  case hw7_18 => rfl
  case hy7_18 => (intro w hSw; (try dsimp only at hSw); go_simp; (try with_reducible rfl))
  try simp only [Act.put, List.setIfInBounds_toArray, List.set_cons_zero, List.set_cons_succ]
  refine wpAnyH_done (by kernel_rfl) ?_ _
  clear hHeld
  have hb8' := Lib.hid (hb6'.out.trans (hz2.mono hb6'.out.size))
  clear hS' cR1' cR2' kv kv0 qs k1 k2 kv1 kv2 hz1 hz2 hz12 hltx
  clear hO6 hb5 cG
  have hs8 := hst.out w8 hb8'.out
  have g0 : w8.cell? ⟨B2, 0, none⟩ = some (.int .i64 r.st) := Lib.cell_of_heap hs8.2.1 0
  have g1 : w8.cell? ⟨B2, 1, none⟩ = some (.int .i64 r.tag) := Lib.cell_of_heap hs8.2.1 1
  have g2 : w8.cell? ⟨B2, 2, none⟩ = some (.string t7) := Lib.cell_of_heap hs8.2.1 2
  have g3 : w8.cell? ⟨B2, 3, none⟩ = some (.slice A3 r.ents.length cp3) := Lib.cell_of_heap hs8.2.1 3
  have g4 : w8.cell? ⟨B2, 4, none⟩ = some (.string t8) := Lib.cell_of_heap hs8.2.1 4
  have cP := putRep_any w8 r _ hs8.2.2.2.2.2 (by omega)
  unfold repV at cP
  rw [e7, e8] at cP
  clear hs8
  go_wp2_with fail
  go_at_call 21
  refine cP.mono ?_
  rintro e w9 ⟨v9, rfl, hO, hb9⟩
  have cG := getRep_any w9 v9 (repB r) hO.bin (by rw [repB_len]; omega)
  rw [got_rep hor'.out] at cG
  dsimp only at cG
  unfold repV at cG
  rw [e7, e8] at cG
  obtain ⟨a10, n10, c10, rfl⟩ : ∃ a n c, v9 = .slice a n c := by obtain ⟨a, c, e⟩ := hO.form; exact ⟨_, _, _, e⟩
  have hb9' := Lib.hid (hb8'.out.trans (hb9.mono hb8'.out.size))
  have hO9 := Lib.hid hO
  clear cP hO hb9 g0 g1 g2 g3 g4
  go_wp2_with fail
  go_at_call 12
  refine cG.mono ?_
  rintro e w10 ⟨nv9, rfl, hO10, hb10⟩
  obtain ⟨a9, c9, rfl⟩ := own_form hO10
  have hb10' := Lib.hid (hb9'.out.trans (hb10.mono hb9'.out.size))
  have hO9b := Lib.hid (hO9.out.kept hb10)
  go_upto_region 11 with fail
  obtain ⟨w11, hw11⟩ : ∃ x, w10.alloc (.cells #[.int .i64 r.st, .int .i64 r.tag, .string t7, .slice a9 r.ents.length c9, .string t8] 45) = x := ⟨_, rfl⟩
  have hb : Below w10.heap.size w10 w11 := by rw [← hw11]; exact below_one _ _
  have hbx : w11.heap[w10.heap.size]? = some (.cells #[.int .i64 r.st, .int .i64 r.tag, .string t7, .slice a9 r.ents.length c9, .string t8] 45 (0, 0)) := by rw [← hw11]; exact heap_alloc_new w10 _
  have hltx := (Array.getElem?_eq_some_iff.1 hbx).1
  rw [hw11]
  have hb11' := Lib.hid (hb10'.out.trans (hb.mono hb10'.out.size))
  have hOc := hO9b.out.kept hb
  have hSx := (ents_own hO10).kept hb
  obtain ⟨C11, hC11⟩ : ∃ x, w10.heap.size = x := ⟨_, rfl⟩
  rw [hC11] at hbx hltx ⊢
  have hsx0 := hst.out w11 hb11'.out
  obtain ⟨sx, hsx⟩ : ∃ x : ByteArray, (⟨(repB r).toArray⟩ : ByteArray) = x := ⟨_, rfl⟩
  have kv : ∀ W, Below w11.heap.size w11 W → (convert 28 9 (.slice a10 n10 c10)).run Try.prog W = .ok (.string sx) W := fun W h => by rw [← hsx]; exact conv_own (hOc.kept h)
  have hS : ∀ W, Below w11.heap.size w11 W → Below w11.heap.size w11 W ∧ W.cell? ⟨B2, 0, none⟩ = some (.int .i64 r.st) ∧ W.cell? ⟨B2, 1, none⟩ = some (.int .i64 r.tag) ∧ W.cell? ⟨B2, 2, none⟩ = some (.string t7) ∧ W.cell? ⟨B2, 3, none⟩ = some (.slice A3 r.ents.length cp3) ∧ W.cell? ⟨B2, 4, none⟩ = some (.string t8) ∧ W.cell? ⟨C11, 0, none⟩ = some (.int .i64 r.st) ∧ W.cell? ⟨C11, 1, none⟩ = some (.int .i64 r.tag) ∧ W.cell? ⟨C11, 2, none⟩ = some (.string t7) ∧ W.cell? ⟨C11, 3, none⟩ = some (.slice a9 r.ents.length c9) ∧ W.cell? ⟨C11, 4, none⟩ = some (.string t8) := fun W h => by
    have h1 := (h.block B2 (by have := hb11'.out.size; omega)).trans hsx0.2.1
    have h2 := (h.block C11 hltx).trans hbx
    exact ⟨h, Lib.cell_of_heap h1 0, Lib.cell_of_heap h1 1, Lib.cell_of_heap h1 2, Lib.cell_of_heap h1 3, Lib.cell_of_heap h1 4, Lib.cell_of_heap h2 0, Lib.cell_of_heap h2 1, Lib.cell_of_heap h2 2, Lib.cell_of_heap h2 3, Lib.cell_of_heap h2 4⟩
  have cR1 : ∀ W, Below w11.heap.size w11 W → Calls Try.prog 18 #[.agg #[.int .i64 r.st, .int .i64 r.tag, .string t7, .slice A3 r.ents.length cp3, .string t8]] W fun e w' => ∃ u, e = .returned u ∧ (∀ W', Below w'.heap.size w' W' → (convert 28 9 u).run Try.prog W' = .ok (.string sx) W') ∧ (∀ W', Below w'.heap.size w' W' → (convert 28 9 (.slice a10 n10 c10)).run Try.prog W' = .ok (.string sx) W') ∧ Below w11.heap.size w11 w' ∧ Below W.heap.size W w' := fun W h => by
    have c := refReply_any W r _ (hsx0.2.2.2.2.2.kept h) (by omega)
    unfold repV at c
    rw [e7, e8] at c
    refine c.mono ?_
    rintro e w' ⟨u, rfl, hu, hb⟩
    have hz := h.trans (hb.mono h.size)
    exact ⟨u, rfl, fun W' h' => by rw [← hsx]; exact conv_own (hu.kept h'), fun W' h' => kv W' (hz.trans (h'.mono hz.size)), hz, hb⟩
  have cR2 : ∀ W, Below w11.heap.size w11 W → Calls Try.prog 18 #[.agg #[.int .i64 r.st, .int .i64 r.tag, .string t7, .slice a9 r.ents.length c9, .string t8]] W fun e w' => ∃ u, e = .returned u ∧ (∀ W', Below w'.heap.size w' W' → (convert 28 9 u).run Try.prog W' = .ok (.string sx) W') ∧ (∀ W', Below w'.heap.size w' W' → (convert 28 9 (.slice a10 n10 c10)).run Try.prog W' = .ok (.string sx) W') ∧ Below w11.heap.size w11 w' ∧ Below W.heap.size W w' := fun W h => by
    have c := refReply_any W r _ (hSx.kept h) (by omega)
    unfold repV at c
    rw [e7, e8] at c
    refine c.mono ?_
    rintro e w' ⟨u, rfl, hu, hb⟩
    have hz := h.trans (hb.mono h.size)
    exact ⟨u, rfl, fun W' h' => by rw [← hsx]; exact conv_own (hu.kept h'), fun W' h' => kv W' (hz.trans (h'.mono hz.size)), hz, hb⟩
  have kv0 := kv w11.drew (Below.drew (Below.refl _ _))
  have qs : (sx.toList != sx.toList) = false := ne_same sx
  have hS' := Lib.hid hS
  have cR1' := Lib.hid cR1
  have cR2' := Lib.hid cR2
  clear hOc hSx hsx0 hsx hS cR1 cR2 hb hbx hw11
  refine wp_region_held_drew (S := fun W => Below w11.heap.size w11 W ∧ W.cell? ⟨B2, 0, none⟩ = some (.int .i64 r.st) ∧ W.cell? ⟨B2, 1, none⟩ = some (.int .i64 r.tag) ∧ W.cell? ⟨B2, 2, none⟩ = some (.string t7) ∧ W.cell? ⟨B2, 3, none⟩ = some (.slice A3 r.ents.length cp3) ∧ W.cell? ⟨B2, 4, none⟩ = some (.string t8) ∧ W.cell? ⟨C11, 0, none⟩ = some (.int .i64 r.st) ∧ W.cell? ⟨C11, 1, none⟩ = some (.int .i64 r.tag) ∧ W.cell? ⟨C11, 2, none⟩ = some (.string t7) ∧ W.cell? ⟨C11, 3, none⟩ = some (.slice a9 r.ents.length c9) ∧ W.cell? ⟨C11, 4, none⟩ = some (.string t8)) (by kernel_rfl) (hS'.out _ (Below.drew (Below.refl _ _))) (fun hHeld => ?_)
  refine wpAnyH_take (i := 0) (oi := ?o11_0) (v := ?v11_0) ?hi11_0 (by kernel_rfl) (by kernel_rfl) (by kernel_rfl) ?hq11_0 (Or.inl ⟨?hw11_0, ?hy11_0⟩) (by assumption) ?_
  case hi11_0 => (simp only [List.getElem?_toArray, List.getElem?_cons_zero]; rfl)
  case hq11_0 => exact fun _ _ _ h => h
  case hw11_0 => rfl
  case hy11_0 => (intro w hSw; (try dsimp only at hSw); go_simp; (try with_reducible rfl))
  try simp only [Act.put, List.setIfInBounds_toArray, List.set_cons_zero, List.set_cons_succ]
  refine wpAnyH_take (i := 1) (oi := ?o11_1) (v := ?v11_1) ?hi11_1 (by kernel_rfl) (by kernel_rfl) (by kernel_rfl) ?hq11_1 (Or.inl ⟨?hw11_1, ?hy11_1⟩) (by assumption) ?_
  case hi11_1 => (simp only [List.getElem?_toArray, List.getElem?_cons_succ, List.getElem?_cons_zero]; rfl)
  case hq11_1 => exact fun _ _ _ h => h
  case hw11_1 => rfl
  case hy11_1 => (intro w hSw; (try dsimp only at hSw); go_simp; (try with_reducible rfl))
  try simp only [Act.put, List.setIfInBounds_toArray, List.set_cons_zero, List.set_cons_succ]
  refine wpAnyH_take (i := 2) (oi := ?o11_2) (v := ?v11_2) ?hi11_2 (by kernel_rfl) (by kernel_rfl) (by kernel_rfl) ?hq11_2 (Or.inl ⟨?hw11_2, ?hy11_2⟩) (by assumption) ?_
  case hi11_2 => (simp only [List.getElem?_toArray, List.getElem?_cons_succ, List.getElem?_cons_zero]; rfl)
  case hq11_2 => exact fun _ _ _ h => h
  case hw11_2 => rfl
  case hy11_2 => (intro w hSw; (try dsimp only at hSw); go_simp; (try with_reducible rfl))
  try simp only [Act.put, List.setIfInBounds_toArray, List.set_cons_zero, List.set_cons_succ]
  refine wpAnyH_ready (rs := [3]) (by kernel_rfl) (by simp) ?_
  refine AllReadyH.cons (o := _) rfl (fun K hK => ?_) AllReadyH.nil
  go_simp
  with_reducible refine (cR1'.out _ (Below.drew (Below.refl _ _))).mono ?_
  rintro e w12 ⟨u1, rfl, k1, kv1, hz1, -⟩
  refine hK.out _ _ (hS'.out _ hz1) (fun _ => ?_)
  clear hK K hHeld
  try simp only [Act.put, List.setIfInBounds_toArray, List.set_cons_zero, List.set_cons_succ]
  refine Rh.wpAnyH_mono (S' := fun W => Below w12.heap.size w12 W ∧ W.cell? ⟨C11, 0, none⟩ = some (.int .i64 r.st) ∧ W.cell? ⟨C11, 1, none⟩ = some (.int .i64 r.tag) ∧ W.cell? ⟨C11, 2, none⟩ = some (.string t7) ∧ W.cell? ⟨C11, 3, none⟩ = some (.slice a9 r.ents.length c9) ∧ W.cell? ⟨C11, 4, none⟩ = some (.string t8)) (fun W h => hS'.out W (hz1.trans (h.1.mono hz1.size))) _ _ _ _ ?_
  have hHeld : Below w12.heap.size w12 w12 ∧ w12.cell? ⟨C11, 0, none⟩ = some (.int .i64 r.st) ∧ w12.cell? ⟨C11, 1, none⟩ = some (.int .i64 r.tag) ∧ w12.cell? ⟨C11, 2, none⟩ = some (.string t7) ∧ w12.cell? ⟨C11, 3, none⟩ = some (.slice a9 r.ents.length c9) ∧ w12.cell? ⟨C11, 4, none⟩ = some (.string t8) := by
    have h := hS'.out w12 hz1
    exact ⟨Below.refl _ _, h.2.2.2.2.2.2.1, h.2.2.2.2.2.2.2.1, h.2.2.2.2.2.2.2.2.1, h.2.2.2.2.2.2.2.2.2.1, h.2.2.2.2.2.2.2.2.2.2⟩
  refine wpAnyH_take (i := 4) (oi := ?o11_4) (v := ?v11_4) ?hi11_4 (by kernel_rfl) (by kernel_rfl) (by kernel_rfl) ?hq11_4 (Or.inl ⟨?hw11_4, ?hy11_4⟩) (by assumption) ?_
  case hi11_4 => (simp only [List.getElem?_toArray, List.getElem?_cons_succ, List.getElem?_cons_zero]; rfl)
  case hq11_4 => exact fun _ _ _ h => h
  case hw11_4 => rfl
  case hy11_4 => (intro w hSw; (try dsimp only at hSw); go_simp; (try with_reducible rfl))
  try simp only [Act.put, List.setIfInBounds_toArray, List.set_cons_zero, List.set_cons_succ]
  refine wpAnyH_take (i := 5) (oi := ?o11_5) (v := ?v11_5) ?hi11_5 (by kernel_rfl) (by kernel_rfl) (by kernel_rfl) ?hq11_5 (Or.inl ⟨?hw11_5, ?hy11_5⟩) (by assumption) ?_
  case hi11_5 => (simp only [List.getElem?_toArray, List.getElem?_cons_succ, List.getElem?_cons_zero]; rfl)
  case hq11_5 => exact fun _ _ _ h => h
  case hw11_5 => rfl
  case hy11_5 => (intro w hSw; (try dsimp only at hSw); go_simp; (try with_reducible rfl))
  try simp only [Act.put, List.setIfInBounds_toArray, List.set_cons_zero, List.set_cons_succ]
  refine wpAnyH_take (i := 6) (oi := ?o11_6) (v := ?v11_6) ?hi11_6 (by kernel_rfl) (by kernel_rfl) (by kernel_rfl) ?hq11_6 (Or.inl ⟨?hw11_6, ?hy11_6⟩) (by assumption) ?_
  case hi11_6 => (simp only [List.getElem?_toArray, List.getElem?_cons_succ, List.getElem?_cons_zero]; rfl)
  case hq11_6 => exact fun _ _ _ h => h
  case hw11_6 => rfl
  case hy11_6 => (intro w hSw; (try dsimp only at hSw); go_simp; (try with_reducible rfl))
  try simp only [Act.put, List.setIfInBounds_toArray, List.set_cons_zero, List.set_cons_succ]
  refine wpAnyH_take (i := 7) (oi := ?o11_7) (v := ?v11_7) ?hi11_7 (by kernel_rfl) (by kernel_rfl) (by kernel_rfl) ?hq11_7 (Or.inl ⟨?hw11_7, ?hy11_7⟩) (by assumption) ?_
  case hi11_7 => (simp only [List.getElem?_toArray, List.getElem?_cons_succ, List.getElem?_cons_zero]; rfl)
  case hq11_7 => exact fun _ _ _ h => h
  case hw11_7 => rfl
  case hy11_7 => (intro w hSw; (try dsimp only at hSw); go_simp; (try with_reducible rfl))
  try simp only [Act.put, List.setIfInBounds_toArray, List.set_cons_zero, List.set_cons_succ]
  refine wpAnyH_take (i := 8) (oi := ?o11_8) (v := ?v11_8) ?hi11_8 (by kernel_rfl) (by kernel_rfl) (by kernel_rfl) ?hq11_8 (Or.inl ⟨?hw11_8, ?hy11_8⟩) (by assumption) ?_
  case hi11_8 => (simp only [List.getElem?_toArray, List.getElem?_cons_succ, List.getElem?_cons_zero]; rfl)
  case hq11_8 => exact fun _ _ _ h => h
  case hw11_8 => rfl
  case hy11_8 => (intro w hSw; (try dsimp only at hSw); go_simp; (try with_reducible rfl))
  try simp only [Act.put, List.setIfInBounds_toArray, List.set_cons_zero, List.set_cons_succ]
  refine wpAnyH_take (i := 9) (oi := ?o11_9) (v := ?v11_9) ?hi11_9 (by kernel_rfl) (by kernel_rfl) (by kernel_rfl) ?hq11_9 (Or.inl ⟨?hw11_9, ?hy11_9⟩) (by assumption) ?_
  case hi11_9 => (simp only [List.getElem?_toArray, List.getElem?_cons_succ, List.getElem?_cons_zero]; rfl)
  case hq11_9 => exact fun _ _ _ h => h
  case hw11_9 => rfl
  case hy11_9 => (intro w hSw; (try dsimp only at hSw); go_simp; (try with_reducible rfl))
  try simp only [Act.put, List.setIfInBounds_toArray, List.set_cons_zero, List.set_cons_succ]
  refine wpAnyH_take (i := 10) (oi := ?o11_10) (v := ?v11_10) ?hi11_10 (by kernel_rfl) (by kernel_rfl) (by kernel_rfl) ?hq11_10 (Or.inl ⟨?hw11_10, ?hy11_10⟩) (by assumption) ?_
  case hi11_10 => (simp only [List.getElem?_toArray, List.getElem?_cons_succ, List.getElem?_cons_zero]; rfl)
  case hq11_10 => exact fun _ _ _ h => h
  case hw11_10 => rfl
  case hy11_10 => (intro w hSw; (try dsimp only at hSw); go_simp; (try with_reducible rfl))
  try simp only [Act.put, List.setIfInBounds_toArray, List.set_cons_zero, List.set_cons_succ]
  refine wpAnyH_take (i := 11) (oi := ?o11_11) (v := ?v11_11) ?hi11_11 (by kernel_rfl) (by kernel_rfl) (by kernel_rfl) ?hq11_11 (Or.inl ⟨?hw11_11, ?hy11_11⟩) (by assumption) ?_
  case hi11_11 => (simp only [List.getElem?_toArray, List.getElem?_cons_succ, List.getElem?_cons_zero]; rfl)
  case hq11_11 => exact fun _ _ _ h => h
  case hw11_11 => rfl
  case hy11_11 => (intro w hSw; (try dsimp only at hSw); go_simp; (try with_reducible rfl))
  try simp only [Act.put, List.setIfInBounds_toArray, List.set_cons_zero, List.set_cons_succ]
  refine wpAnyH_take (i := 14) (oi := ?o11_14) (v := ?v11_14) ?hi11_14 (by kernel_rfl) (by kernel_rfl) (by kernel_rfl) ?hq11_14 (Or.inl ⟨?hw11_14, ?hy11_14⟩) (by assumption) ?_
  case hi11_14 => (simp only [List.getElem?_toArray, List.getElem?_cons_succ, List.getElem?_cons_zero]; rfl)
  case hq11_14 => exact fun _ _ _ h => h
  case hw11_14 => rfl
  case hy11_14 => (intro w hSw; (try dsimp only at hSw); go_simp; (try with_reducible rfl))
  try simp only [Act.put, List.setIfInBounds_toArray, List.set_cons_zero, List.set_cons_succ]
  refine wpAnyH_take (i := 15) (oi := ?o11_15) (v := ?v11_15) ?hi11_15 (by kernel_rfl) (by kernel_rfl) (by kernel_rfl) ?hq11_15 (Or.inl ⟨?hw11_15, ?hy11_15⟩) (by assumption) ?_
  case hi11_15 => (simp only [List.getElem?_toArray, List.getElem?_cons_succ, List.getElem?_cons_zero]; rfl)
  case hq11_15 => exact fun _ _ _ h => h
  case hw11_15 => rfl
  case hy11_15 => (intro w hSw; (try dsimp only at hSw); go_simp; (try with_reducible rfl))
  try simp only [Act.put, List.setIfInBounds_toArray, List.set_cons_zero, List.set_cons_succ]
  refine wpAnyH_ready (rs := [12]) (by kernel_rfl) (by simp) ?_
  refine AllReadyH.cons (o := _) rfl (fun K hK => ?_) AllReadyH.nil
  go_simp
  with_reducible refine (cR2'.out _ hz1).mono ?_
  rintro e w13 ⟨u2, rfl, k2, kv2, hz2, hz12⟩
  have hHeld2 : Below w12.heap.size w12 w13 ∧ w13.cell? ⟨C11, 0, none⟩ = some (.int .i64 r.st) ∧ w13.cell? ⟨C11, 1, none⟩ = some (.int .i64 r.tag) ∧ w13.cell? ⟨C11, 2, none⟩ = some (.string t7) ∧ w13.cell? ⟨C11, 3, none⟩ = some (.slice a9 r.ents.length c9) ∧ w13.cell? ⟨C11, 4, none⟩ = some (.string t8) := by
    have h := hS'.out w13 hz2
    exact ⟨hz12, h.2.2.2.2.2.2.1, h.2.2.2.2.2.2.2.1, h.2.2.2.2.2.2.2.2.1, h.2.2.2.2.2.2.2.2.2.1, h.2.2.2.2.2.2.2.2.2.2⟩
  refine hK.out _ _ hHeld2 (fun _ => ?_)
  clear hK K hHeld hHeld2
  try simp only [Act.put, List.setIfInBounds_toArray, List.set_cons_zero, List.set_cons_succ]
  refine Rh.wpAnyH_mono (S' := fun W => Below w13.heap.size w13 W) (fun W h => by
    have h' := hS'.out W (hz2.trans (h.mono hz2.size))
    exact ⟨hz12.trans (h.mono hz12.size), h'.2.2.2.2.2.2.1, h'.2.2.2.2.2.2.2.1, h'.2.2.2.2.2.2.2.2.1, h'.2.2.2.2.2.2.2.2.2.1, h'.2.2.2.2.2.2.2.2.2.2⟩) _ _ _ _ ?_
  have hHeld : Below w13.heap.size w13 w13 := Below.refl _ _
  refine wpAnyH_take (i := 13) (oi := ?o11_13) (v := ?v11_13) ?hi11_13 (by kernel_rfl) (by kernel_rfl) (by kernel_rfl) ?hq11_13 (Or.inl ⟨?hw11_13, ?hy11_13⟩) (by assumption) ?_
  case hi11_13 => (simp only [List.getElem?_toArray, List.getElem?_cons_succ, List.getElem?_cons_zero]; rfl)
  case hq11_13 => exact fun _ _ _ h => h
  case hw11_13 => rfl
  case hy11_13 => (intro w hSw; (try dsimp only at hSw); go_simp; (try with_reducible rfl))
  try simp only [Act.put, List.setIfInBounds_toArray, List.set_cons_zero, List.set_cons_succ]
  refine wpAnyH_take (i := 16) (oi := ?o11_16) (v := ?v11_16) ?hi11_16 (by kernel_rfl) (by kernel_rfl) (by kernel_rfl) ?hq11_16 (Or.inl ⟨?hw11_16, ?hy11_16⟩) (by assumption) ?_
  case hi11_16 => (simp only [List.getElem?_toArray, List.getElem?_cons_succ, List.getElem?_cons_zero]; rfl)
  case hq11_16 => exact fun _ _ _ h => h
  case hw11_16 => rfl
  case hy11_16 => (intro w hSw; (try dsimp only at hSw); go_simp; (try with_reducible rfl))
  try simp only [Act.put, List.setIfInBounds_toArray, List.set_cons_zero, List.set_cons_succ]
  refine wpAnyH_take (i := 17) (oi := ?o11_17) (v := ?v11_17) ?hi11_17 (by kernel_rfl) (by kernel_rfl) (by kernel_rfl) ?hq11_17 (Or.inl ⟨?hw11_17, ?hy11_17⟩) (by assumption) ?_
  case hi11_17 => (simp only [List.getElem?_toArray, List.getElem?_cons_succ, List.getElem?_cons_zero]; rfl)
  case hq11_17 => exact fun _ _ _ h => h
  case hw11_17 => rfl
  case hy11_17 => (intro w hSw; (try dsimp only at hSw); go_simp; (try with_reducible rfl))
  try simp only [Act.put, List.setIfInBounds_toArray, List.set_cons_zero, List.set_cons_succ]
  refine wpAnyH_done (by kernel_rfl) ?_ _
  clear hHeld
  have hb13' := Lib.hid (hb11'.out.trans (hz2.mono hb11'.out.size))
  clear hS' cR1' cR2' kv kv0 qs k1 k2 kv1 kv2 hz1 hz2 hz12 hltx
  clear hO10 hb10 cG
  have hs13 := hst.out w13 hb13'.out
  have d0 : w13.cell? ⟨B, 0, none⟩ = some (.int .i64 l.term) := Lib.cell_of_heap hs13.1 0
  have d1 : w13.cell? ⟨B, 1, none⟩ = some (.int .i64 l.kind) := Lib.cell_of_heap hs13.1 1
  have d2 : w13.cell? ⟨B, 2, none⟩ = some (.int .i64 l.com.op) := Lib.cell_of_heap hs13.1 2
  have d3 : w13.cell? ⟨B, 3, none⟩ = some (.string t1) := Lib.cell_of_heap hs13.1 3
  have d4 : w13.cell? ⟨B, 4, none⟩ = some (.string t2) := Lib.cell_of_heap hs13.1 4
  have d5 : w13.cell? ⟨B, 5, none⟩ = some (.string t3) := Lib.cell_of_heap hs13.1 5
  have d6 : w13.cell? ⟨B, 6, none⟩ = some (.string t4) := Lib.cell_of_heap hs13.1 6
  have d7 : w13.cell? ⟨B, 7, none⟩ = some (.string t5) := Lib.cell_of_heap hs13.1 7
  have d8 : w13.cell? ⟨B, 8, none⟩ = some (.string t6) := Lib.cell_of_heap hs13.1 8
  have d9 : w13.cell? ⟨B, 9, none⟩ = some (.slice A l.com.names.length cp) := Lib.cell_of_heap hs13.1 9
  have d10 : w13.cell? ⟨B, 10, none⟩ = some (.int .i64 l.com.pos) := Lib.cell_of_heap hs13.1 10
  have d11 : w13.cell? ⟨B, 11, none⟩ = some (.int .i64 l.com.ses) := Lib.cell_of_heap hs13.1 11
  have d12 : w13.cell? ⟨B, 12, none⟩ = some (.int .i64 l.com.seq) := Lib.cell_of_heap hs13.1 12
  have d13 : w13.cell? ⟨B, 13, none⟩ = some (.slice A2 l.nodes.length cp2) := Lib.cell_of_heap hs13.1 13
  have cP := putLog_any w13 l _ _ hs13.2.2.2.1 hs13.2.2.2.2.1 ho'.out (by omega) (by omega)
  unfold logV at cP
  rw [e1, e2, e3, e4, e5, e6] at cP
  clear hs13
  go_wp2_with fail
  go_at_call 10
  refine cP.mono ?_
  rintro e w14 ⟨v14, er, rfl, hP, hb14⟩
  have hb14' := Lib.hid (hb13'.out.trans (hb14.mono hb13'.out.size))
  have hP' := Lib.hid hP
  clear cP hP hb14 d0 d1 d2 d3 d4 d5 d6 d7 d8 d9 d10 d11 d12 d13
  have hs14 := hst.out w14 hb14'.out
  have d0 : w14.cell? ⟨B, 0, none⟩ = some (.int .i64 l.term) := Lib.cell_of_heap hs14.1 0
  have d1 : w14.cell? ⟨B, 1, none⟩ = some (.int .i64 l.kind) := Lib.cell_of_heap hs14.1 1
  have d2 : w14.cell? ⟨B, 2, none⟩ = some (.int .i64 l.com.op) := Lib.cell_of_heap hs14.1 2
  have d3 : w14.cell? ⟨B, 3, none⟩ = some (.string t1) := Lib.cell_of_heap hs14.1 3
  have d4 : w14.cell? ⟨B, 4, none⟩ = some (.string t2) := Lib.cell_of_heap hs14.1 4
  have d5 : w14.cell? ⟨B, 5, none⟩ = some (.string t3) := Lib.cell_of_heap hs14.1 5
  have d6 : w14.cell? ⟨B, 6, none⟩ = some (.string t4) := Lib.cell_of_heap hs14.1 6
  have d7 : w14.cell? ⟨B, 7, none⟩ = some (.string t5) := Lib.cell_of_heap hs14.1 7
  have d8 : w14.cell? ⟨B, 8, none⟩ = some (.string t6) := Lib.cell_of_heap hs14.1 8
  have d9 : w14.cell? ⟨B, 9, none⟩ = some (.slice A l.com.names.length cp) := Lib.cell_of_heap hs14.1 9
  have d10 : w14.cell? ⟨B, 10, none⟩ = some (.int .i64 l.com.pos) := Lib.cell_of_heap hs14.1 10
  have d11 : w14.cell? ⟨B, 11, none⟩ = some (.int .i64 l.com.ses) := Lib.cell_of_heap hs14.1 11
  have d12 : w14.cell? ⟨B, 12, none⟩ = some (.int .i64 l.com.seq) := Lib.cell_of_heap hs14.1 12
  have d13 : w14.cell? ⟨B, 13, none⟩ = some (.slice A2 l.nodes.length cp2) := Lib.cell_of_heap hs14.1 13
  have cR := refLog_any w14 l _ _ hs14.2.2.2.1 hs14.2.2.2.2.1 (by omega) (by omega)
  unfold logV at cR
  rw [e1, e2, e3, e4, e5, e6] at cR
  clear hs14
  go_wp2_with fail
  go_at_call 20
  refine cR.mono ?_
  rintro e w15 ⟨v15, ok, rfl, hLR, hb15⟩
  have hb15' := Lib.hid (hb14'.out.trans (hb15.mono hb14'.out.size))
  have hLR' := Lib.hid hLR
  have hb15k := Lib.hid hb15
  clear cR hLR hb15 d0 d1 d2 d3 d4 d5 d6 d7 d8 d9 d10 d11 d12 d13
  cases hgo : logB l with
  | none =>
    rw [hgo] at hP' hLR'
    obtain ⟨rfl, rfl⟩ := hP'.out
    obtain rfl : ok = false := hLR'.out
    have hF := Lib.hid (hst.out w15 hb15'.out).2.2.1
    clear hP' hLR' hgo
    go_wp2
    go_ret
    exact ⟨rfl, hF.out⟩
  | some b =>
    rw [hgo] at hP' hLR'
    obtain ⟨rfl, hO14⟩ := hP'.out
    obtain ⟨rfl, hO15⟩ := hLR'.out
    have hO14b := hO14.kept hb15k.out
    have hbl : b.length ≤ 1099511627776 := by
      unfold logB at hgo
      split at hgo
      · injection hgo with hgo; rw [← hgo, List.length_append, wrd_len]; decide
      split at hgo
      · injection hgo with hgo; rw [← hgo, List.length_append, List.length_append, wrd_len, comB_len]; simp; omega
      split at hgo
      · injection hgo with hgo; rw [← hgo, List.length_append, List.length_append, wrd_len, Cd.rows_len, flat_wrd]; simp; omega
      · cases hgo
    have cG := getLog_any w15 v14 b hO14b.bin hbl
    rw [got_log ho'.out hgo] at cG
    dsimp only at cG
    unfold logV at cG
    rw [e1, e2, e3, e4, e5, e6] at cG
    have hO14' := Lib.hid hO14b
    have hO15' := Lib.hid hO15
    have hgo' := Lib.hid hgo
    obtain ⟨a14, n14, c14, rfl⟩ : ∃ a n c, v14 = .slice a n c := by obtain ⟨a, c, e⟩ := hO14.form; exact ⟨_, _, _, e⟩
    clear hP' hLR' hgo hO14 hO15 hO14b hbl
    go_wp2_with fail
    go_at_call 11
    refine cG.mono ?_
    rintro e w16 ⟨nv16, ds16, rfl, hOa, hOb, hb16⟩
    obtain ⟨a16, c16, rfl⟩ := own_form hOa
    obtain ⟨b16, d16, rfl⟩ := own_form hOb
    have hb16' := Lib.hid (hb15'.out.trans (hb16.mono hb15'.out.size))
    have hO14'' := Lib.hid (hO14'.out.kept hb16)
    have hO15'' := Lib.hid (hO15'.out.kept hb16)
    have hOa' := Lib.hid (strs_own hOa)
    have hOb' := Lib.hid (ints_own hOb)
    clear cG hb16 hOa hOb
    go_upto_region 18 with fail
    obtain ⟨w17, hw17⟩ : ∃ x, w16.alloc (.cells #[.int .i64 l.term, .int .i64 l.kind, .int .i64 l.com.op, .string t1, .string t2, .string t3, .string t4, .string t5, .string t6, .slice a16 l.com.names.length c16, .int .i64 l.com.pos, .int .i64 l.com.ses, .int .i64 l.com.seq, .slice b16 l.nodes.length d16] 39) = x := ⟨_, rfl⟩
    have hb : Below w16.heap.size w16 w17 := by rw [← hw17]; exact below_one _ _
    have hbx : w17.heap[w16.heap.size]? = some (.cells #[.int .i64 l.term, .int .i64 l.kind, .int .i64 l.com.op, .string t1, .string t2, .string t3, .string t4, .string t5, .string t6, .slice a16 l.com.names.length c16, .int .i64 l.com.pos, .int .i64 l.com.ses, .int .i64 l.com.seq, .slice b16 l.nodes.length d16] 39 (0, 0)) := by rw [← hw17]; exact heap_alloc_new w16 _
    rw [hw17]
    have hb17' := Lib.hid (hb16'.out.trans (hb.mono hb16'.out.size))
    obtain ⟨C17, hC17⟩ : ∃ x, w16.heap.size = x := ⟨_, rfl⟩
    rw [hC17] at hbx ⊢
    have d0 : w17.cell? ⟨C17, 0, none⟩ = some (.int .i64 l.term) := Lib.cell_of_heap hbx 0
    have d1 : w17.cell? ⟨C17, 1, none⟩ = some (.int .i64 l.kind) := Lib.cell_of_heap hbx 1
    have d2 : w17.cell? ⟨C17, 2, none⟩ = some (.int .i64 l.com.op) := Lib.cell_of_heap hbx 2
    have d3 : w17.cell? ⟨C17, 3, none⟩ = some (.string t1) := Lib.cell_of_heap hbx 3
    have d4 : w17.cell? ⟨C17, 4, none⟩ = some (.string t2) := Lib.cell_of_heap hbx 4
    have d5 : w17.cell? ⟨C17, 5, none⟩ = some (.string t3) := Lib.cell_of_heap hbx 5
    have d6 : w17.cell? ⟨C17, 6, none⟩ = some (.string t4) := Lib.cell_of_heap hbx 6
    have d7 : w17.cell? ⟨C17, 7, none⟩ = some (.string t5) := Lib.cell_of_heap hbx 7
    have d8 : w17.cell? ⟨C17, 8, none⟩ = some (.string t6) := Lib.cell_of_heap hbx 8
    have d9 : w17.cell? ⟨C17, 9, none⟩ = some (.slice a16 l.com.names.length c16) := Lib.cell_of_heap hbx 9
    have d10 : w17.cell? ⟨C17, 10, none⟩ = some (.int .i64 l.com.pos) := Lib.cell_of_heap hbx 10
    have d11 : w17.cell? ⟨C17, 11, none⟩ = some (.int .i64 l.com.ses) := Lib.cell_of_heap hbx 11
    have d12 : w17.cell? ⟨C17, 12, none⟩ = some (.int .i64 l.com.seq) := Lib.cell_of_heap hbx 12
    have d13 : w17.cell? ⟨C17, 13, none⟩ = some (.slice b16 l.nodes.length d16) := Lib.cell_of_heap hbx 13
    have cR := refLog_any w17 l _ _ (hOa'.out.kept hb) (hOb'.out.kept hb) (by omega) (by omega)
    unfold logV at cR
    rw [e1, e2, e3, e4, e5, e6] at cR
    have hP14 := Lib.hid (hO14''.out.kept hb)
    have hP15 := Lib.hid (hO15''.out.kept hb)
    rw [hgo'.out] at cR
    clear hb hbx hw17
    go_wp2_with fail
    go_at_call 20
    refine cR.mono ?_
    rintro e w18 ⟨v18, ok2, rfl, ⟨rfl, hO18⟩, hb18⟩
    obtain ⟨sx, hsx⟩ : ∃ x : ByteArray, (⟨b.toArray⟩ : ByteArray) = x := ⟨_, rfl⟩
    have k14 := conv_own (hP14.out.kept hb18)
    have k15 := conv_own (hP15.out.kept hb18)
    have k18 := conv_own hO18
    rw [hsx] at k14 k15 k18
    have qs := eq_same sx
    have hF := Lib.hid (hst.out w18 (hb17'.out.trans (hb18.mono hb17'.out.size))).2.2.1
    clear cR hO18 hb18 hsx d0 d1 d2 d3 d4 d5 d6 d7 d8 d9 d10 d11 d12 d13
    go_wp2
    go_ret
    exact ⟨rfl, hF.out⟩
end Go.Proofs.Ytacmfglbdbhglaa.Ly
