/-
  CodecCuts: nothing cut off is whole, and nothing with bytes behind.
-/
import Derived.Test.YtacmfglbdbhglaaCodLaw
set_option linter.unusedVariables false
namespace Go.Proofs.Ytacmfglbdbhglaa.Ly
open Go.Lib Go.RowKit
open Bo (Kp Row ownsRow_heap sv sv_data)
open Cd (St endS encS encI encE En Rep repS repV rep0 repB okRep cod_rep Com comS comV comC com0 comB okCom cod_com Lg lg0 logS logV logB okLg log_back log_cut RowsAt StrsAt IntsAt EntsAt wrd wrd_len rows flatN kB kB_is comB_len len_flat text_pos)

set_option maxHeartbeats 16000000 in
set_option maxRecDepth 100000 in
theorem cuts_walk (w : World) (c : Com) (nv : Value) (z : Int) (ha : StrsAt w nv c.names) (ho : okCom c) (hL : 88 + c.book.length + c.name.length + c.data.length + c.mat.length + c.non.length + c.tok.length + flatN text c.names ≤ 1073741824) :
    Calls Try.prog 4 #[comV c nv, .int .i64 z] w fun e w' => e = .returned (.bool true) ∧ Below w.heap.size w w' := by
  have hln := len_flat text_pos c.names
  obtain ⟨A, nb, off, cp, rfl, -, -, -, -⟩ := id ha
  obtain ⟨w1, hw1⟩ : ∃ w1, w.alloc (.cells (comC c (.slice A c.names.length cp)) 25) = w1 := ⟨_, rfl⟩
  have hb1 : Below w.heap.size w w1 := by rw [← hw1]; exact below_one _ _
  have hbox : w1.heap[w.heap.size]? = some (.cells (comC c (.slice A c.names.length cp)) 25 (0, 0)) := by rw [← hw1]; exact heap_alloc_new w _
  have hlt := (Array.getElem?_eq_some_iff.1 hbox).1
  obtain ⟨B, hB⟩ : ∃ B, w.heap.size = B := ⟨_, rfl⟩
  rw [hB] at hbox hlt
  have hst : ∀ W, Below w1.heap.size w1 W → (∀ j, W.cell? ⟨B, j, none⟩ = (comC c (.slice A c.names.length cp))[j]?) ∧ StrsAt W (.slice A c.names.length cp) c.names ∧ Below w.heap.size w W := fun W h => ⟨fun j => Lib.cell_of_heap ((h.block B hlt).trans hbox) j, (ha.kept hb1).kept h, hb1.trans (h.mono hb1.size)⟩
  have hst' := Lib.hid hst
  have ho' := Lib.hid ho
  have hN : (comB c).length ≤ 1073741824 := by rw [comB_len]; exact hL
  have hN0 : 88 ≤ (comB c).length := by rw [comB_len]; omega
  unfold comV
  unfold comC at hw1 ⊢
  clear hb1 hbox ha hst ho
  have cF := first_any w1
  go_enter Try.func4, Try.ntmps4
  go_wp2_with fail
  go_at_call 7
  refine cF.mono ?_
  rintro e w2 ⟨rfl, hb2⟩
  have hb2' := Lib.hid hb2
  have d7 : w2.cell? ⟨B, 7, none⟩ = some (.slice A c.names.length cp) := (hst'.out w2 hb2).1 7
  by_cases h300 : 300 < c.names.length
  · have g1 : decide (300 < c.names.length) = true := decide_eq_true h300
    have g2 : decide ((300 : Int) < (c.names.length : Int)) = true := decide_eq_true (by omega)
    have hF := Lib.hid (hst'.out w2 hb2).2.2
    clear hb2 h300 cF
    go_wp2
    go_ret
    exact ⟨rfl, hF.out⟩
  have g1 : decide (300 < c.names.length) = false := decide_eq_false h300
  have g2 : decide ((300 : Int) < (c.names.length : Int)) = false := decide_eq_false (by omega)
  have d0 : w2.cell? ⟨B, 0, none⟩ = some (.int .i64 c.op) := (hst'.out w2 hb2).1 0
  have d1 : w2.cell? ⟨B, 1, none⟩ = some (sv c.book) := (hst'.out w2 hb2).1 1
  have d2 : w2.cell? ⟨B, 2, none⟩ = some (sv c.name) := (hst'.out w2 hb2).1 2
  have d3 : w2.cell? ⟨B, 3, none⟩ = some (sv c.data) := (hst'.out w2 hb2).1 3
  have d4 : w2.cell? ⟨B, 4, none⟩ = some (sv c.mat) := (hst'.out w2 hb2).1 4
  have d5 : w2.cell? ⟨B, 5, none⟩ = some (sv c.non) := (hst'.out w2 hb2).1 5
  have d6 : w2.cell? ⟨B, 6, none⟩ = some (sv c.tok) := (hst'.out w2 hb2).1 6
  have d8 : w2.cell? ⟨B, 8, none⟩ = some (.int .i64 c.pos) := (hst'.out w2 hb2).1 8
  have d9 : w2.cell? ⟨B, 9, none⟩ = some (.int .i64 c.ses) := (hst'.out w2 hb2).1 9
  have d10 : w2.cell? ⟨B, 10, none⟩ = some (.int .i64 c.seq) := (hst'.out w2 hb2).1 10
  have cP := putCom_any w2 c _ (hst'.out w2 hb2).2.1 (by omega)
  unfold comV comC at cP
  clear hb2 h300 cF
  go_wp2_with fail
  go_at_call 8
  refine cP.mono ?_
  rintro e w3 ⟨v3, rfl, hO, hb3⟩
  obtain ⟨g, cap, hv, hcap, hgl⟩ := own_some hO (by omega)
  subst hv
  obtain ⟨N, hNe⟩ : ∃ N, (comB c).length = N := ⟨_, rfl⟩
  obtain ⟨K, hK, hKe⟩ := rem_of z N (by omega) (by omega)
  have cG := getCom_any w3 (.slice (some ⟨g, 0, none⟩) K cap) ((comB c).take K) (bin_cut hO rfl (by omega)) (by rw [List.length_take]; omega)
  rw [got_cut ho'.out (List.take_append_drop K (comB c)) (by intro e; have := congrArg List.length e; rw [List.length_drop] at this; simp at this; omega)] at cG
  have hNe' := Lib.hid hNe
  have hO' := Lib.hid hO
  rw [hNe] at hcap hN hN0
  rw [hNe]
  have hb3' := Lib.hid (hb2'.out.trans (hb3.mono hb2'.out.size))
  have hwN : IntKind.u64.wrap (N : Int) = (N : Int) := Cd.wrapU_nat (by omega)
  have hN1 : ((N : Int) == 0) = false := beq_eq_false_iff_ne.2 (by omega)
  have hN2 : ¬ (N : Int) = 0 := by omega
  have hc0 : ¬ cap = 0 := by omega
  have hK0 : (0 : Int) ≤ (K : Int) := by omega
  have hK1 : (K : Int) ≤ (cap : Int) := by omega
  have cG1 : Calls Try.prog 9 #[.slice (some ⟨g, 0, none⟩) K cap] w3 fun e w' => ∃ nv, e = .returned (.tuple #[.agg #[.int .i64 0, .string ⟨#[]⟩, .string ⟨#[]⟩, .string ⟨#[]⟩, .string ⟨#[]⟩, .string ⟨#[]⟩, .string ⟨#[]⟩, nv, .int .i64 0, .int .i64 0, .int .i64 0], .int .i64 150]) ∧ w'.ownsRow w3.heap.size 9 1 nv 0 [] ∧ Below w3.heap.size w3 w' := cG
  clear cP hO hb3 hNe d7 cG
  go_wp2_with fail
  go_at_call 9
  refine cG1.mono ?_
  rintro e w4 ⟨nv4, rfl, hO4, hb4⟩
  obtain ⟨a4, c4, rfl⟩ := own_form hO4
  have hb4' := Lib.hid (hb3'.out.trans (hb4.mono hb3'.out.size))
  have hO5 := Lib.hid (hO'.out.kept hb4)
  rw [hNe'.out] at hO5
  clear hO4 hb4 cG1
  go_upto_region 8 with fail
  obtain ⟨w5, hw5⟩ : ∃ x, w4.alloc (.cells #[.int .i64 0, .string ⟨#[]⟩, .string ⟨#[]⟩, .string ⟨#[]⟩, .string ⟨#[]⟩, .string ⟨#[]⟩, .string ⟨#[]⟩, .slice a4 0 c4, .int .i64 0, .int .i64 0, .int .i64 0] 25) = x := ⟨_, rfl⟩
  have hb5 : Below w4.heap.size w4 w5 := by rw [← hw5]; exact below_one _ _
  rw [hw5]
  have hb5' := Lib.hid (hb4'.out.trans (hb5.mono hb4'.out.size))
  have hO6 := Lib.hid ((hO5.out.kept hb5).kept (below_one w5 (.cells #[] 5)))
  have hE := Lib.hid (own_empty w5)
  have hb6 := Lib.hid (below_one w5 (.cells #[] 5))
  have hsz6 : w5.heap.size ≤ (w5.alloc (.cells #[] 5)).heap.size := hb6.out.size
  have hNl := hNe'.out
  have hlr : ([] : Row).length + (comB c).length ≤ 140737488355328 := by rw [hNl]; simp; omega
  have hlp : 0 < (comB c).length := by omega
  have hNl' := Lib.hid hNl
  clear hw5 hb5 hNl
  have hlb : (comB c).length + 1 ≤ 140737488355328 := by rw [hNl'.out]; omega
  have hkz := kB_is z
  go_wp2_with (first
    | (at_builtin; refine append_rowL rfl _ _ rfl w5.heap.size (.slice (some ⟨w5.heap.size, 0, none⟩) 0 0) [] w2.heap.size (.slice (some ⟨g, 0, none⟩) N cap) (comB c) rfl rfl hO6.out hlp hE.out hlr hsz6 N (by rw [hNl'.out]; simp) (comB c) rfl ?_; intro g7 cap7 w7 hw7; have hW7 := Lib.hid hw7)
    | (at_builtin; refine append_byte (kB z) _ hkz rfl _ _ rfl w5.heap.size _ (comB c) _ rfl rfl rfl hW7.out.own hlb (Nat.le_trans hsz6 hW7.out.kp.size) ?_; intro g8 cap8 w8 hw8; have hW8 := Lib.hid hw8)
    | fail)
  have hb8 : Below w5.heap.size w5 w8 := (hW7.out.then hW8.out).below hE.out hb6.out hsz6
  have hb8' := Lib.hid (hb5'.out.trans (hb8.mono hb5'.out.size))
  have cG0 := getCom_any w8 _ _ hW8.out.own.bin (by rw [List.length_append, hNl'.out]; simp; omega)
  rw [got_more ho'.out] at cG0
  have cG1 : Calls Try.prog 9 #[.slice (some ⟨g8, 0, none⟩) ((comB c).length + 1) cap8] w8 fun e w' => ∃ nv, e = .returned (.tuple #[.agg #[.int .i64 0, .string ⟨#[]⟩, .string ⟨#[]⟩, .string ⟨#[]⟩, .string ⟨#[]⟩, .string ⟨#[]⟩, .string ⟨#[]⟩, nv, .int .i64 0, .int .i64 0, .int .i64 0], .int .i64 151]) ∧ w'.ownsRow w8.heap.size 9 1 nv 0 [] ∧ Below w8.heap.size w8 w' := cG0
  clear hw7 hw8 hb8 cG0
  go_wp2_with fail
  go_at_call 9
  refine cG1.mono ?_
  rintro e w9 ⟨nv9, rfl, hO9, hb9⟩
  obtain ⟨a9, c9, rfl⟩ := own_form hO9
  have hb9' := Lib.hid (hb8'.out.trans (hb9.mono hb8'.out.size))
  clear hO9 hb9 cG1
  go_upto_region 9 with fail
  obtain ⟨wA, hwA⟩ : ∃ x, w9.alloc (.cells #[.int .i64 0, .string ⟨#[]⟩, .string ⟨#[]⟩, .string ⟨#[]⟩, .string ⟨#[]⟩, .string ⟨#[]⟩, .string ⟨#[]⟩, .slice a9 0 c9, .int .i64 0, .int .i64 0, .int .i64 0] 25) = x := ⟨_, rfl⟩
  have hbA : Below w9.heap.size w9 wA := by rw [← hwA]; exact below_one _ _
  rw [hwA]
  have hbA' := Lib.hid (hb9'.out.trans (hbA.mono hb9'.out.size))
  have hcs := hst'.out wA hbA'.out
  have m0 : wA.cell? ⟨B, 0, none⟩ = some (.int .i64 c.op) := (hcs).1 0
  have m1 : wA.cell? ⟨B, 1, none⟩ = some (sv c.book) := (hcs).1 1
  have m2 : wA.cell? ⟨B, 2, none⟩ = some (sv c.name) := (hcs).1 2
  have m3 : wA.cell? ⟨B, 3, none⟩ = some (sv c.data) := (hcs).1 3
  have m4 : wA.cell? ⟨B, 4, none⟩ = some (sv c.mat) := (hcs).1 4
  have m5 : wA.cell? ⟨B, 5, none⟩ = some (sv c.non) := (hcs).1 5
  have m6 : wA.cell? ⟨B, 6, none⟩ = some (sv c.tok) := (hcs).1 6
  have m7 : wA.cell? ⟨B, 7, none⟩ = some (.slice A c.names.length cp) := (hcs).1 7
  have m8 : wA.cell? ⟨B, 8, none⟩ = some (.int .i64 c.pos) := (hcs).1 8
  have m9 : wA.cell? ⟨B, 9, none⟩ = some (.int .i64 c.ses) := (hcs).1 9
  have m10 : wA.cell? ⟨B, 10, none⟩ = some (.int .i64 c.seq) := (hcs).1 10
  have cP : Calls Try.prog 10 #[.agg #[.int .i64 0, .int .i64 1, .int .i64 c.op, sv c.book, sv c.name, sv c.data, sv c.mat, sv c.non, sv c.tok, .slice A c.names.length cp, .int .i64 c.pos, .int .i64 c.ses, .int .i64 c.seq, .slice none 0 0]] wA fun e w' => ∃ v er, e = .returned (.tuple #[v, .int .i64 er]) ∧ PutR (logB (lgOf c)) wA.heap.size v er w' ∧ Below wA.heap.size wA w' :=
    putLog_any wA (lgOf c) _ (.slice none 0 0) hcs.2.1 (RowsAt.nil wA) (lgOf_ok ho'.out) (by show 88 + c.book.length + c.name.length + c.data.length + c.mat.length + c.non.length + c.tok.length + flatN text c.names ≤ _; omega) (by simp [lgOf])
  rw [lgOf_b] at cP
  clear hwA hbA hcs
  go_wp2_with fail
  go_at_call 10
  refine cP.mono ?_
  rintro e wB ⟨vB, er, rfl, ⟨rfl, hOB⟩, hbB⟩
  have hML : (wrd 0 ++ ([1] ++ comB c)).length = 9 + N := by rw [List.length_append, List.length_append, wrd_len, hNl'.out]; simp; omega
  obtain ⟨gB, capB, hvB, hcapB, hgB⟩ := own_some hOB (by omega)
  subst hvB
  obtain ⟨M, hM⟩ : ∃ M, (wrd 0 ++ ([1] ++ comB c)).length = M := ⟨_, rfl⟩
  obtain ⟨M1, hM1⟩ : ∃ M1, M = M1 + 1 := ⟨M - 1, by omega⟩
  have hbB' := Lib.hid (hbA'.out.trans (hbB.mono hbA'.out.size))
  have hpt : (wrd 0 ++ ([1] ++ comB c)).take M1 = wrd 0 ++ (1 :: (comB c).take (N - 1)) := by
    rw [List.take_append, wrd_len, List.take_of_length_le (by rw [wrd_len]; omega), List.take_append, List.take_of_length_le (by simp; omega), show M1 - 8 - [(1 : UInt8)].length = N - 1 by simp; omega]
    rfl
  have cG0 := getLog_any wB (.slice (some ⟨gB, 0, none⟩) M1 capB) ((wrd 0 ++ ([1] ++ comB c)).take M1) (bin_cut hOB rfl (by omega)) (by rw [List.length_take]; omega)
  rw [hpt, got_logcut ho'.out (List.take_append_drop (N - 1) (comB c)) (by intro e; have := congrArg List.length e; rw [List.length_drop, hNl'.out] at this; simp at this; omega)] at cG0
  have cG1 : Calls Try.prog 11 #[.slice (some ⟨gB, 0, none⟩) M1 capB] wB fun e w' => ∃ nv ds, e = .returned (.tuple #[.agg #[.int .i64 0, .int .i64 0, .int .i64 0, .string ⟨#[]⟩, .string ⟨#[]⟩, .string ⟨#[]⟩, .string ⟨#[]⟩, .string ⟨#[]⟩, .string ⟨#[]⟩, nv, .int .i64 0, .int .i64 0, .int .i64 0, ds], .int .i64 150]) ∧ w'.ownsRow wB.heap.size 9 1 nv 0 [] ∧ w'.ownsRow wB.heap.size 3 1 ds 0 [] ∧ Below wB.heap.size wB w' := cG0
  rw [hM] at hcapB ⊢
  have hMi : (M : Int) - 1 = (M1 : Int) := by omega
  have hMw : IntKind.i64.wrap (M1 : Int) = (M1 : Int) := by rw [IntKind.wrap_i64]; omega
  have q0 : (0 : Int) ≤ (M1 : Int) := by omega
  have q1 : (M1 : Int) ≤ (capB : Int) := by omega
  have q2 : ¬ capB = 0 := by omega
  clear hM1 hM hML hOB hbB hpt cP cG0 hcapB
  go_wp2_with fail
  go_at_call 11
  refine cG1.mono ?_
  rintro e wC ⟨nvC, dsC, rfl, hOC, hOD, hbC⟩
  obtain ⟨aC, cC, rfl⟩ := own_form hOC
  obtain ⟨aD, cD, rfl⟩ := own_form hOD
  have hbC' := Lib.hid (hst'.out wC (hbB'.out.trans (hbC.mono hbB'.out.size))).2.2
  clear hOC hOD hbC cG1
  go_wp2
  go_ret
  exact ⟨rfl, hbC'.out.alloc hbC'.out.size _⟩
end Go.Proofs.Ytacmfglbdbhglaa.Ly
