/-
  WHICH ENTRIES OF THE LOG CAN BE (empty, formed), AND THEIR BYTES (PutLog).
-/
import Derived.Test.YtpngbfmbjldieaaWrtE
import Derived.Test.YtpngbfmbjldieaaCodRefLog
set_option linter.unusedVariables false
namespace Go.Proofs.Ytpngbfmbjldieaa.Ly
open Go.Lib Go.RowKit
open Bo (Kp Row ownsRow_heap sv sv_data)
open Cd (RowsAt StrsAt IntsAt text_len flatN rows wrd wrd_len Com comB comC comV com0 okCom cod_com com0_ok Lg logV logB okLg kB kB_is kB_0 kB_1 kB_2 comB_len len_flat text_pos flat_len)

set_option maxHeartbeats 8000000 in
set_option maxRecDepth 100000 in
theorem empty_any (w : World) (c : Com) (nv : Value) (ha : StrsAt w nv c.names) (ho : okCom c) (hL : 88 + c.book.length + c.name.length + c.data.length + c.mat.length + c.non.length + c.tok.length + flatN text c.names ≤ 70368744177664) :
    Calls Try.prog 60 #[comV c nv] w fun e w' => e = .returned (.bool (decide (c = com0))) ∧ Below w.heap.size w w' := by
  have hd : decide (comB c = comB com0) = decide (c = com0) := by
    by_cases h : c = com0
    · rw [h]; simp
    · rw [decide_eq_false h]; exact decide_eq_false fun e => h (cod_com.inj ho com0_ok e)
  obtain ⟨w1, hw1⟩ : ∃ w1, w.alloc (.cells (comC c nv) 27) = w1 := ⟨_, rfl⟩
  have hb1 : Below w.heap.size w w1 := by rw [← hw1]; exact below_one _ _
  have hbox : w1.heap[w.heap.size]? = some (.cells (comC c nv) 27 (0, 0)) := by rw [← hw1]; exact heap_alloc_new w _
  have cP := putCom_any w1 c nv (ha.kept hb1) hL
  have cZ : ∀ W : World, Calls Try.prog 21 #[.agg #[.int .i64 0, .string ⟨#[]⟩, .string ⟨#[]⟩, .string ⟨#[]⟩, .string ⟨#[]⟩, .string ⟨#[]⟩, .string ⟨#[]⟩, .slice none 0 0, .int .i64 0, .int .i64 0, .int .i64 0]] W fun e w' => ∃ v', e = .returned v' ∧ BOwn W.heap.size v' (comB com0) w' ∧ Below W.heap.size W w' := fun W => putCom_any W com0 (.slice none 0 0) (RowsAt.nil W) (by simp [com0, flatN])
  have ha0 := ha
  obtain ⟨A, nb, off, cp, rfl, -, -, -, -⟩ := ha0
  obtain ⟨B, hB⟩ : ∃ B, w.heap.size = B := ⟨_, rfl⟩
  rw [hB] at hbox
  obtain ⟨r, hr⟩ : ∃ r, comB c = r := ⟨_, rfl⟩
  obtain ⟨r0, hr0⟩ : ∃ r, comB com0 = r := ⟨_, rfl⟩
  rw [hr] at cP
  simp only [hr0] at cZ
  rw [hr, hr0] at hd
  rw [← hd]
  unfold comV at cP ⊢
  unfold comC at cP hbox hw1 ⊢
  have d0 : w1.cell? ⟨B, 0, none⟩ = some (.int .i64 c.op) := Lib.cell_of_heap hbox 0
  have d1 : w1.cell? ⟨B, 1, none⟩ = some (sv c.book) := Lib.cell_of_heap hbox 1
  have d2 : w1.cell? ⟨B, 2, none⟩ = some (sv c.name) := Lib.cell_of_heap hbox 2
  have d3 : w1.cell? ⟨B, 3, none⟩ = some (sv c.data) := Lib.cell_of_heap hbox 3
  have d4 : w1.cell? ⟨B, 4, none⟩ = some (sv c.mat) := Lib.cell_of_heap hbox 4
  have d5 : w1.cell? ⟨B, 5, none⟩ = some (sv c.non) := Lib.cell_of_heap hbox 5
  have d6 : w1.cell? ⟨B, 6, none⟩ = some (sv c.tok) := Lib.cell_of_heap hbox 6
  have d7 : w1.cell? ⟨B, 7, none⟩ = some (.slice A c.names.length cp) := Lib.cell_of_heap hbox 7
  have d8 : w1.cell? ⟨B, 8, none⟩ = some (.int .i64 c.pos) := Lib.cell_of_heap hbox 8
  have d9 : w1.cell? ⟨B, 9, none⟩ = some (.int .i64 c.ses) := Lib.cell_of_heap hbox 9
  have d10 : w1.cell? ⟨B, 10, none⟩ = some (.int .i64 c.seq) := Lib.cell_of_heap hbox 10
  have hb1' := Lib.hid hb1
  have cZ' := Lib.hid cZ
  clear hb1 hbox ha hd hr hr0 ho cZ
  go_enter Try.func60, Try.ntmps60
  go_wp2_with fail
  go_at_call 21
  refine cP.mono ?_
  rintro e w2 ⟨v1, rfl, h1, hb2⟩
  have h1' := Lib.hid h1
  have hb2' := Lib.hid hb2
  obtain ⟨a1, n1, c1, rfl⟩ : ∃ a n c, v1 = .slice a n c := by obtain ⟨a, c, e⟩ := h1.form; exact ⟨_, _, _, e⟩
  clear cP h1 hb2
  go_wp2_with fail
  go_at_call 21
  refine (cZ'.out w2).mono ?_
  rintro e w3 ⟨v2, rfl, h2, hb3⟩
  have cE := equal_any w3 _ _ _ v2 r r0 (h1'.out.kept hb3) h2
  have hb3' := Lib.hid hb3
  obtain ⟨a2, n2, c2, rfl⟩ : ∃ a n c, v2 = .slice a n c := by obtain ⟨a, c, e⟩ := h2.form; exact ⟨_, _, _, e⟩
  clear h2 hb3
  go_wp2_with fail
  go_at_call 67
  refine cE.mono ?_
  rintro e w4 ⟨rfl, e4⟩
  have hF := Lib.hid (hb1'.out.trans ((hb2'.out.trans (hb3'.out.mono hb2'.out.size)).mono hb1'.out.size))
  rw [← e4] at hF
  clear cE e4
  go_wp2
  go_ret
  exact ⟨rfl, hF.out⟩

/-- an entry of the log in a box -/
def lgC (l : Lg) (nv ds : Value) : Array Value := #[.int .i64 l.term, .int .i64 l.kind, .int .i64 l.com.op, sv l.com.book, sv l.com.name, sv l.com.data, sv l.com.mat, sv l.com.non, sv l.com.tok, nv, .int .i64 l.com.pos, .int .i64 l.com.ses, .int .i64 l.com.seq, ds]
theorem isS {α : Type} {o : Option α} {b : Bool} (h : o.isSome = b) : b = o.isSome := h.symm
set_option maxHeartbeats 16000000 in
set_option maxRecDepth 100000 in
theorem formed_any (w : World) (l : Lg) (nv ds : Value) (ha : StrsAt w nv l.com.names) (hd : IntsAt w ds l.nodes) (ho : okLg l) (hL : 88 + l.com.book.length + l.com.name.length + l.com.data.length + l.com.mat.length + l.com.non.length + l.com.tok.length + flatN text l.com.names ≤ 70368744177664) :
    Calls Try.prog 42 #[logV l nv ds] w fun e w' => e = .returned (.bool (logB l).isSome) ∧ Below w.heap.size w w' := by
  obtain ⟨A, nb, off, cp, rfl, -, -, -, -⟩ := id ha
  obtain ⟨A2, mb, off2, cp2, rfl, -, -, -, -⟩ := id hd
  obtain ⟨w1, hw1⟩ : ∃ w1, w.alloc (.cells (lgC l (.slice A l.com.names.length cp) (.slice A2 l.nodes.length cp2)) 39) = w1 := ⟨_, rfl⟩
  have hb1 : Below w.heap.size w w1 := by rw [← hw1]; exact below_one _ _
  have hbox : w1.heap[w.heap.size]? = some (.cells (lgC l (.slice A l.com.names.length cp) (.slice A2 l.nodes.length cp2)) 39 (0, 0)) := by rw [← hw1]; exact heap_alloc_new w _
  have cE := empty_any w1 l.com (.slice A l.com.names.length cp) (ha.kept hb1) ho.2.1 hL
  have hlt := (Array.getElem?_eq_some_iff.1 hbox).1
  obtain ⟨B, hB⟩ : ∃ B, w.heap.size = B := ⟨_, rfl⟩
  rw [hB] at hbox hlt
  obtain ⟨goal, hgoal⟩ : ∃ g, (logB l).isSome = g := ⟨_, rfl⟩
  rw [hgoal]
  have hz : (((l.nodes.length : Nat) : Int) == 0) = decide (l.nodes = []) := by
    cases hn : l.nodes with
    | nil => rfl
    | cons x xs =>
      rw [decide_eq_false (by simp)]
      refine beq_eq_false_iff_ne.2 ?_
      rw [List.length_cons]
      omega
  have hg : goal = if l.kind = 0 then decide (l.com = com0) && decide (l.nodes = []) else if l.kind = 1 then decide (l.nodes = []) else if l.kind = 2 then decide (l.com = com0) else false := by
    rw [← hgoal]
    unfold logB
    by_cases k0 : l.kind = 0
    · by_cases k2 : l.com = com0 <;> by_cases k3 : l.nodes = [] <;> simp [k0, k2, k3]
    by_cases k1 : l.kind = 1
    · by_cases k3 : l.nodes = [] <;> simp [k1, k3]
    by_cases k2 : l.kind = 2
    · by_cases k3 : l.com = com0 <;> simp [k2, k3]
    · simp [k0, k1, k2]
  have hbx : ∀ W, Below w1.heap.size w1 W → W.heap[B]? = some (.cells (lgC l (.slice A l.com.names.length cp) (.slice A2 l.nodes.length cp2)) 39 (0, 0)) := fun W h => (h.block B hlt).trans hbox
  have hbx' := Lib.hid hbx
  have hbox' := Lib.hid hbox
  obtain ⟨b, hb⟩ : ∃ b, decide (l.com = com0) = b := ⟨_, rfl⟩
  obtain ⟨d, hdd⟩ : ∃ d, decide (l.nodes = []) = d := ⟨_, rfl⟩
  rw [hb] at cE hg
  rw [hdd] at hz hg
  have c1 : w1.cell? ⟨B, 1, none⟩ = some (.int .i64 l.kind) := Lib.cell_of_heap hbox 1
  have d2 : w1.cell? ⟨B, 2, none⟩ = some (.int .i64 l.com.op) := Lib.cell_of_heap hbox 2
  have d3 : w1.cell? ⟨B, 3, none⟩ = some (sv l.com.book) := Lib.cell_of_heap hbox 3
  have d4 : w1.cell? ⟨B, 4, none⟩ = some (sv l.com.name) := Lib.cell_of_heap hbox 4
  have d5 : w1.cell? ⟨B, 5, none⟩ = some (sv l.com.data) := Lib.cell_of_heap hbox 5
  have d6 : w1.cell? ⟨B, 6, none⟩ = some (sv l.com.mat) := Lib.cell_of_heap hbox 6
  have d7 : w1.cell? ⟨B, 7, none⟩ = some (sv l.com.non) := Lib.cell_of_heap hbox 7
  have d8 : w1.cell? ⟨B, 8, none⟩ = some (sv l.com.tok) := Lib.cell_of_heap hbox 8
  have d9 : w1.cell? ⟨B, 9, none⟩ = some (.slice A l.com.names.length cp) := Lib.cell_of_heap hbox 9
  have d10 : w1.cell? ⟨B, 10, none⟩ = some (.int .i64 l.com.pos) := Lib.cell_of_heap hbox 10
  have d11 : w1.cell? ⟨B, 11, none⟩ = some (.int .i64 l.com.ses) := Lib.cell_of_heap hbox 11
  have d12 : w1.cell? ⟨B, 12, none⟩ = some (.int .i64 l.com.seq) := Lib.cell_of_heap hbox 12
  unfold comV comC at cE
  unfold lgC at hw1
  unfold logV
  have hb1' := Lib.hid hb1
  clear hb1 hbox ha hd ho hgoal hb hdd hbx
  by_cases k0 : l.kind = 0
  · rw [if_pos k0] at hg
    have e0 : (l.kind == 0) = true := by rw [k0]; rfl
    clear k0
    have hg' := Lib.hid hg
    clear hg
    go_enter Try.func42, Try.ntmps42
    go_wp2_with fail
    go_at_call 60
    refine cE.mono ?_
    rintro e w2 ⟨rfl, hb2⟩
    have d13 : w2.cell? ⟨B, 13, none⟩ = some (.slice A2 l.nodes.length cp2) := Lib.cell_of_heap (hbx'.out w2 hb2) 13
    have hF := Lib.hid (hb1'.out.trans (hb2.mono hb1'.out.size))
    clear hb2 cE
    cases b
    · go_wp2
      go_ret
      exact ⟨by rw [hg'.out]; rfl, hF.out⟩
    · go_wp2
      go_ret
      exact ⟨by rw [hg'.out]; rfl, hF.out⟩
  have e0 : (l.kind == 0) = false := beq_eq_false_iff_ne.2 k0
  rw [if_neg k0] at hg
  by_cases k1 : l.kind = 1
  · rw [if_pos k1] at hg
    have e1 : (l.kind == 1) = true := by rw [k1]; rfl
    have d13 : w1.cell? ⟨B, 13, none⟩ = some (.slice A2 l.nodes.length cp2) := Lib.cell_of_heap hbox'.out 13
    clear k0 k1
    have hg' := Lib.hid hg
    clear hg cE
    go_enter Try.func42, Try.ntmps42
    go_wp2
    go_ret
    exact ⟨by rw [hg'.out]; rfl, hb1'.out⟩
  have e1 : (l.kind == 1) = false := beq_eq_false_iff_ne.2 k1
  rw [if_neg k1] at hg
  by_cases k2 : l.kind = 2
  · rw [if_pos k2] at hg
    have e2 : (l.kind == 2) = true := by rw [k2]; rfl
    clear k0 k1 k2
    have hg' := Lib.hid hg
    clear hg
    go_enter Try.func42, Try.ntmps42
    go_wp2_with fail
    go_at_call 60
    refine cE.mono ?_
    rintro e w2 ⟨rfl, hb2⟩
    have hF := Lib.hid (hb1'.out.trans (hb2.mono hb1'.out.size))
    clear hb2 cE
    go_wp2
    go_ret
    exact ⟨by rw [hg'.out]; rfl, hF.out⟩
  have e2 : (l.kind == 2) = false := beq_eq_false_iff_ne.2 k2
  rw [if_neg k2] at hg
  clear k0 k1 k2
  have hg' := Lib.hid hg
  clear hg cE
  go_enter Try.func42, Try.ntmps42
  go_wp2
  go_ret
  exact ⟨by rw [hg'.out]; rfl, hb1'.out⟩
end Go.Proofs.Ytpngbfmbjldieaa.Ly
