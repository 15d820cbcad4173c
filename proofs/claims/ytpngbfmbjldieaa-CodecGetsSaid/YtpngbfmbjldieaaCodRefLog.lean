/-
  THE WALK OF calepinref15.Log.
-/
import Derived.Test.YtpngbfmbjldieaaCodRefZero
import Derived.Test.YtpngbfmbjldieaaCodRefCom
import Derived.Deep.Onto
import Derived.Deep.RegionLaw
set_option linter.unusedVariables false
namespace Go.Proofs.Ytpngbfmbjldieaa.Cd
open Go.Lib Go.RowKit
open Bo (Kp Row ownsRow_heap sv sv_data)
open Ly (BOwn Wr word text flag num word_len num_word num_snoc num_lt info_parts infoU8 bc bc_app append_byte append_text)

/-- one byte more, as a step of a region that draws its order; the byte's block lies anywhere -/
theorem step_byte {W : World} {ops : Array Oper} {o : Oper} {a : Act} {K : Act → World → Prop} {Q : Exit → Act → World → Prop} {E : Prop} (x : UInt8) (hgd : o.guard = none) (s xo : Operand)
    (ho : o.op = .call { callee := .builtin .append, args := #[s, xo], argTypes := #[22, 22] }) (base : Nat) (v : Value) (l : Row) (g0 : Nat) (hs : a.eval s = v) (hx : a.eval xo = .slice (some ⟨g0, 0, none⟩) 1 1) (hc : W.cell? ⟨g0, 0, none⟩ = some (.int .u8 (x.toNat : Int)))
    (hown : BOwn base v l W) (hl : l.length + 1 ≤ 140737488355328) (hbase : base ≤ W.heap.size)
    (h : ∀ g cap w', Wr base W w' v (.slice (some ⟨g, 0, none⟩) (l.length + 1) cap) (l ++ [x]) → K (a.put o.dst (.slice (some ⟨g, 0, none⟩) (l.length + 1) cap)) w') :
    if Region.wanted o (yielded ops a.tmps) = true then Oper.wp Try.prog o a W K Q else E := by
  obtain ⟨i0, hi, hz0, hz1, hz2⟩ := info_parts infoU8
  refine step_append_lies (ops := ops) (E := E) _ hgd s xo 22 ho base 5 i0 (.int .u8 0) 1 1 Try.underlying22 hi hz0 hz1 hz2 rfl (by decide) v l.length (bc l) hs hown ⟨g0, 0, none⟩ 1 1 [.int .u8 (x.toNat : Int)] hx rfl (fun j u hj => ?_) (fun u hu => ?_) (by decide) (by unfold maxLen; omega) (by omega) hbase _ rfl (fun g cap w' h5 h6 h7 h8 => h g cap w' ?_)
  · match j, hj with
    | 0, hj => simp at hj; subst hj; simpa [Addr.add] using hc
  · simp at hu
    rcases hu with rfl
    rfl
  · refine ⟨?_, (Kp.refl _ _).grown h6 fun k hk => .inl (by simp [hk]), fun k hk => ?_⟩
    · unfold BOwn
      rw [bc_app, List.length_append]
      exact h5
    · simp [Value.ownBlock] at hk
      subst hk
      rcases h7 with e | e
      · exact .inl e
      · exact .inr (by omega)
/-- bytes of a row of the call's own more -/
theorem step_row {W : World} {ops : Array Oper} {o : Oper} {a : Act} {K : Act → World → Prop} {Q : Exit → Act → World → Prop} {E : Prop} (hgd : o.guard = none) (s xo : Operand)
    (ho : o.op = .call { callee := .builtin .append, args := #[s, xo], argTypes := #[22, 22] }) (base : Nat) (v : Value) (l : Row) (bu : Nat) (u : Value) (x : Row) (hs : a.eval s = v) (hx : a.eval xo = u) (hu : BOwn bu u x W) (hx0 : 0 < x.length)
    (hown : BOwn base v l W) (hl : l.length + x.length ≤ 140737488355328) (hbase : base ≤ W.heap.size)
    (h : ∀ g cap w', Wr base W w' v (.slice (some ⟨g, 0, none⟩) (l.length + x.length) cap) (l ++ x) → K (a.put o.dst (.slice (some ⟨g, 0, none⟩) (l.length + x.length) cap)) w') :
    if Region.wanted o (yielded ops a.tmps) = true then Oper.wp Try.prog o a W K Q else E := by
  obtain ⟨i0, hi, hz0, hz1, hz2⟩ := info_parts infoU8
  rcases hu.2 with ⟨_, h0⟩ | ⟨gu, cu, cur, rfl, _, hg, _, _, hcs, htk⟩
  · omega
  refine step_append_lies (ops := ops) (E := E) _ hgd s xo 22 ho base 5 i0 (.int .u8 0) 1 1 Try.underlying22 hi hz0 hz1 hz2 rfl (by decide) v l.length (bc l) hs hown ⟨gu, 0, none⟩ x.length cu (bc x) hx hu.1 (fun j y hj => ?_) (fun y hy => ?_) hx0 (by unfold maxLen; omega) (by omega) hbase _ rfl (fun g cap w' h5 h6 h7 h8 => h g cap w' ?_)
  · have hp : (⟨gu, 0, none⟩ : Addr).add j = ⟨gu, j, none⟩ := by unfold Addr.add; split <;> simp_all
    rw [hp, Lib.cell_of_heap hg]
    rw [← htk, List.getElem?_take] at hj
    split at hj
    · simpa using hj
    · cases hj
  · unfold bc at hy
    simp at hy
    obtain ⟨_, _, rfl⟩ := hy
    rfl
  · refine ⟨?_, (Kp.refl _ _).grown h6 fun k hk => .inl (by simp [hk]), fun k hk => ?_⟩
    · unfold BOwn
      rw [bc_app, List.length_append]
      exact h5
    · simp [Value.ownBlock] at hk
      subst hk
      rcases h7 with e | e
      · exact .inl e
      · exact .inr (by omega)
theorem comB_len (c : Com) : (comB c).length = 88 + c.book.length + c.name.length + c.data.length + c.mat.length + c.non.length + c.tok.length + flatN text c.names := by
  unfold comB
  simp only [List.length_append, wrd_len, text_len, rows_len]
  omega
theorem own_fin {Z B : Nat} {v : Value} {l l' : Row} {w : World} (h : BOwn Z v l w) (hB : B ≤ Z) (e : l = l') : BOwn B v l' w := by
  subst e
  exact World.ownsRow.mono h hB
theorem upK_wrd (xs : List Int) (k : Nat) : (upK wrd xs k).length = 8 * min k xs.length := by
  unfold upK
  rw [← List.length_take]
  induction xs.take k with
  | nil => rfl
  | cons x xs ih => simp only [List.map_cons, List.flatten_cons, List.length_append, List.length_cons, wrd_len, ih]; omega
theorem comB_pos (c : Com) : 0 < (comB c).length := by
  unfold comB
  rw [List.length_append, wrd_len]
  omega
/-- bytes that the call owns stand behind bytes that it owns -/
def kB (z : Int) : UInt8 := UInt8.ofNat (IntKind.u8.wrap z).toNat
theorem kB_is (z : Int) : ((kB z).toNat : Int) = IntKind.u8.wrap z := by
  unfold kB
  rw [UInt8.toNat_ofNat']
  have h : 0 ≤ IntKind.u8.wrap z ∧ IntKind.u8.wrap z < 256 := by
    unfold IntKind.wrap
    simp only [IntKind.bits, IntKind.signed, Bool.false_and, Bool.false_eq_true, if_false]
    omega
  omega
/-- what Log's two results say -/
def LogR (o : Option Row) (B : Nat) (v : Value) (ok : Bool) (w : World) : Prop :=
  match o with
  | some b => ok = true ∧ BOwn B v b w
  | none => ok = false
theorem logR_some {o : Option Row} {b : Row} {B : Nat} {v : Value} {w : World} (hg : some b = o) (h : BOwn B v b w) : LogR o B v true w := by
  subst hg
  exact ⟨rfl, h⟩
theorem logR_none {o : Option Row} {B : Nat} {v : Value} {w : World} (hg : none = o) : LogR o B v false w := by
  subst hg
  rfl
theorem kB_0 : kB 0 = 0 := by decide
theorem kB_1 : kB 1 = 1 := by decide
theorem kB_2 : kB 2 = 2 := by decide
set_option maxHeartbeats 16000000 in
set_option maxRecDepth 100000 in
theorem refLog_any (w : World) (l : Lg) (nv ds : Value) (hn : StrsAt w nv l.com.names) (hd : IntsAt w ds l.nodes)
    (hL : 88 + l.com.book.length + l.com.name.length + l.com.data.length + l.com.mat.length + l.com.non.length + l.com.tok.length + flatN text l.com.names ≤ 70368744177664) (hD : l.nodes.length ≤ 1099511627776) :
    Calls Try.prog 20 #[logV l nv ds] w fun e w' => ∃ v ok, e = .returned (.tuple #[v, .bool ok]) ∧ LogR (logB l) w.heap.size v ok w' ∧ Below w.heap.size w w' := by
  obtain ⟨goal, hgoal⟩ : ∃ g, logB l = g := ⟨_, rfl⟩
  rw [hgoal]
  have hgoal' := Lib.hid hgoal
  have hln := len_flat text_pos l.com.names
  have hn0 := Lib.hid hn
  obtain ⟨A, nb, off, cp, rfl, n1, n2, n3, n4⟩ := rows_one (f := sv) (fun _ => rfl) hn
  obtain ⟨A2, mb, off2, cp2, rfl, m1, m2, m3, m4⟩ := rows_one (f := fun z => .int .i64 z) (fun _ => rfl) hd
  unfold logV
  obtain ⟨w0, hw0⟩ : ∃ w0, w.alloc (.cells #[.int .i64 l.term, .int .i64 l.kind, .int .i64 l.com.op, sv l.com.book, sv l.com.name, sv l.com.data, sv l.com.mat, sv l.com.non, sv l.com.tok, .slice A l.com.names.length cp, .int .i64 l.com.pos, .int .i64 l.com.ses, .int .i64 l.com.seq, .slice A2 l.nodes.length cp2] 39) = w0 := ⟨_, rfl⟩
  have hbox : w0.heap[w.heap.size]? = some (.cells #[.int .i64 l.term, .int .i64 l.kind, .int .i64 l.com.op, sv l.com.book, sv l.com.name, sv l.com.data, sv l.com.mat, sv l.com.non, sv l.com.tok, .slice A l.com.names.length cp, .int .i64 l.com.pos, .int .i64 l.com.ses, .int .i64 l.com.seq, .slice A2 l.nodes.length cp2] 39 (0, 0)) := by rw [← hw0]; exact heap_alloc_new w _
  have hb0 : Below w.heap.size w w0 := by rw [← hw0]; exact (Below.refl _ _).alloc (Nat.le_refl _) _
  have hgl : w.heap.size < w0.heap.size := (Array.getElem?_eq_some_iff.1 hbox).1
  obtain ⟨B, hBe⟩ : ∃ B, w.heap.size = B := ⟨_, rfl⟩
  have hB : B ≤ w0.heap.size := by omega
  rw [hBe] at hbox hgl
  have hBe' := Lib.hid hBe
  obtain ⟨Z, hZ⟩ : ∃ Z, w0.heap.size = Z := ⟨_, rfl⟩
  rw [hZ] at hgl hB
  have hcl : ∀ W, Below Z w0 W → Below Z w0 W ∧ W.cell? ⟨B, 0, none⟩ = some (.int .i64 l.term) ∧ W.cell? ⟨B, 1, none⟩ = some (.int .i64 l.kind) := fun W hW => by
    have hbW := (hW.block B hgl).trans hbox
    exact ⟨hW, Lib.cell_of_heap hbW 0, Lib.cell_of_heap hbW 1⟩
  have hcm : ∀ W, Below Z w0 W → Below Z w0 W ∧ W.cell? ⟨B, 2, none⟩ = some (.int .i64 l.com.op) ∧ W.cell? ⟨B, 3, none⟩ = some (sv l.com.book) ∧ W.cell? ⟨B, 4, none⟩ = some (sv l.com.name) ∧ W.cell? ⟨B, 5, none⟩ = some (sv l.com.data) ∧ W.cell? ⟨B, 6, none⟩ = some (sv l.com.mat) ∧ W.cell? ⟨B, 7, none⟩ = some (sv l.com.non) ∧ W.cell? ⟨B, 8, none⟩ = some (sv l.com.tok) ∧ W.cell? ⟨B, 9, none⟩ = some (.slice A l.com.names.length cp) ∧ W.cell? ⟨B, 10, none⟩ = some (.int .i64 l.com.pos) ∧ W.cell? ⟨B, 11, none⟩ = some (.int .i64 l.com.ses) ∧ W.cell? ⟨B, 12, none⟩ = some (.int .i64 l.com.seq) ∧ W.cell? ⟨B, 13, none⟩ = some (.slice A2 l.nodes.length cp2) := fun W hW => by
    have hbW := (hW.block B hgl).trans hbox
    exact ⟨hW, Lib.cell_of_heap hbW 2, Lib.cell_of_heap hbW 3, Lib.cell_of_heap hbW 4, Lib.cell_of_heap hbW 5, Lib.cell_of_heap hbW 6, Lib.cell_of_heap hbW 7, Lib.cell_of_heap hbW 8, Lib.cell_of_heap hbW 9, Lib.cell_of_heap hbW 10, Lib.cell_of_heap hbW 11, Lib.cell_of_heap hbW 12, Lib.cell_of_heap hbW 13⟩
  have hcm' := Lib.hid hcm
  have cC : ∀ W, Below Z w0 W → Calls Try.prog 19 #[.agg #[.int .i64 l.com.op, sv l.com.book, sv l.com.name, sv l.com.data, sv l.com.mat, sv l.com.non, sv l.com.tok, .slice A l.com.names.length cp, .int .i64 l.com.pos, .int .i64 l.com.ses, .int .i64 l.com.seq]] W fun e w' => ∃ u, e = .returned u ∧ BOwn W.heap.size u (comB l.com) w' ∧ Below W.heap.size W w' ∧ Below Z w0 w' := fun W hW => by
    have hWs : Z ≤ W.heap.size := by rw [← hZ]; exact hW.size
    have hwW : Below w.heap.size w W := hb0.trans (hW.mono (by omega))
    refine (refCommand_any W l.com _ (hn0.out.kept hwW) hL).mono ?_
    rintro e w' ⟨u, rfl, hu, hb⟩
    exact ⟨u, rfl, hu, hb, hW.trans (hb.mono hWs)⟩
  have cZ : ∀ W, Below Z w0 W → Calls Try.prog 17 #[.agg #[.int .i64 l.com.op, sv l.com.book, sv l.com.name, sv l.com.data, sv l.com.mat, sv l.com.non, sv l.com.tok, .slice A l.com.names.length cp, .int .i64 l.com.pos, .int .i64 l.com.ses, .int .i64 l.com.seq]] W fun e w' => e = .returned (.bool (decide (l.com = com0))) ∧ Below W.heap.size W w' ∧ Below Z w0 w' := fun W hW => by
    have hWs : Z ≤ W.heap.size := by rw [← hZ]; exact hW.size
    have hwW : Below w.heap.size w W := hb0.trans (hW.mono (by omega))
    refine (refZero_any W l.com _ (hn0.out.kept hwW) (by omega)).mono ?_
    rintro e w' ⟨rfl, hb⟩
    exact ⟨rfl, hb, hW.trans (hb.mono hWs)⟩
  have hroom : (wrd l.term ++ [kB l.kind]).length + (comB l.com).length ≤ 140737488355328 := by
    rw [List.length_append, wrd_len, comB_len]
    simp
    omega
  have hD' : l.nodes.length < 18446744073709551616 := by omega
  have cC' := Lib.hid cC
  have cZ' := Lib.hid cZ
  have hm4 := Lib.hid (And.intro m3 m4)
  clear cC cZ hcm
  have cN : ∀ W, Below Z w0 W → Calls Try.prog 37 #[.slice none 0 0, .int .i64 l.term] W fun e w' => ∃ a c, e = .returned (.slice a 8 c) ∧ BOwn Z (.slice a 8 c) (wrd l.term) w' ∧ Below W.heap.size W w' ∧ Below Z w0 w' := fun W hW => by
    have hWs : Z ≤ W.heap.size := by rw [← hZ]; exact hW.size
    refine (refNumber_any W Z _ [] l.term (BOwn.nil Z W) (by simp) hWs).mono ?_
    rintro e w' ⟨v', rfl, h'⟩
    rw [List.nil_append] at h'
    obtain ⟨a, c, hv⟩ := h'.own.form
    rw [wrd_len] at hv
    subst hv
    exact ⟨a, c, rfl, h'.own, h'.low, hW.trans (h'.low.mono hWs)⟩
  obtain ⟨kb, hkb⟩ : ∃ kb, kB l.kind = kb := ⟨_, rfl⟩
  have hkz : IntKind.u8.wrap l.kind = (kb.toNat : Int) := by rw [← hkb, kB_is]
  have cN' := Lib.hid cN
  have hcl' := Lib.hid hcl
  have hbox' := Lib.hid hbox
  have hb0' := Lib.hid hb0
  clear cN hcl hbox hb0 n4 m3 m4 hn hd
  go_enter Try.func20, Try.ntmps20
  go_wp2_with fail
  go_region_held3 (fun W => Below Z w0 W ∧ W.cell? ⟨B, 0, none⟩ = some (.int .i64 l.term) ∧ W.cell? ⟨B, 1, none⟩ = some (.int .i64 l.kind))
    (refine hcl'.out _ ?_ <;> first | assumption | exact Below.drew (Below.refl _ _) | exact Below.drew ((Below.refl _ _).alloc (by omega) _) | (refine Below.alloc ?_ ?_ _ <;> first | assumption | exact Below.drew (Below.refl _ _) | (simp; omega) | (have := hbs.size; omega)))
    (first
      | (go_at_call 37; refine (cN'.out _ (Below.drew (Below.refl _ _))).mono ?_; rintro e w1 ⟨a1, c1, rfl, h1, hb1, hbs⟩)
      | (go_at_call 37; refine (cN'.out (World.drew (World.alloc _ _)) (Below.drew ((Below.refl _ _).alloc (by omega) _))).mono ?_; rintro e w1 ⟨a1, c1, rfl, h1, hb1, hbs⟩; have hnw := heap_alloc_new w0 (Obj.cells #[.int .u8 (kb.toNat : Int)] 5); have hal := (hb1.block w0.heap.size (Array.getElem?_eq_some_iff.1 hnw).1).trans hnw; rw [hZ] at hal)
      | (refine step_byte kb (by rfl) _ _ (by rfl) Z _ (wrd l.term) _ (by rfl) (by rfl) (Lib.cell_of_heap (heap_alloc_new _ _) 0) (h1.kept ((Below.refl _ _).alloc (Nat.le_refl _) _)) (by rw [wrd_len]; omega) (by have := hbs.size; simp; omega) ?_; intro g cap w3 h3; have hb3 := h3.below (h1.kept ((Below.refl _ _).alloc (Nat.le_refl _) _)) (hbs.alloc (by have := hbs.size; omega) _) (by have := hbs.size; simp; omega))
      | (refine step_byte kb (by rfl) _ _ (by rfl) Z _ (wrd l.term) _ (by rfl) (by rfl) (Lib.cell_of_heap hal 0) h1 (by rw [wrd_len]; omega) (by have := hbs.size; omega) ?_; intro g cap w3 h3; have hb3 := h3.below h1 hbs (by have := hbs.size; omega)))
  all_goals
    have hid3 := Lib.hid h3.own
    have hb3' := Lib.hid hb3
    have hbx3 := Lib.hid ((hb3.block B hgl).trans hbox'.out)
    have hzz : Z ≤ w3.heap.size := by rw [← hZ]; exact hb3.size
    clear h1 hbs hb1 h3 hb3 cN'
    try clear hal
    try clear hnw
    have c1 := Lib.cell_of_heap hbx3.out 1
    by_cases hk1 : l.kind = 1
    · have e0 : (l.kind == 0) = false := by rw [hk1]; rfl
      have e1 : (l.kind == 1) = true := by rw [hk1]; rfl
      go_wp2_with fail
      go_region_held3 (fun W => Below Z w0 W ∧ W.cell? ⟨B, 2, none⟩ = some (.int .i64 l.com.op) ∧ W.cell? ⟨B, 3, none⟩ = some (sv l.com.book) ∧ W.cell? ⟨B, 4, none⟩ = some (sv l.com.name) ∧ W.cell? ⟨B, 5, none⟩ = some (sv l.com.data) ∧ W.cell? ⟨B, 6, none⟩ = some (sv l.com.mat) ∧ W.cell? ⟨B, 7, none⟩ = some (sv l.com.non) ∧ W.cell? ⟨B, 8, none⟩ = some (sv l.com.tok) ∧ W.cell? ⟨B, 9, none⟩ = some (.slice A l.com.names.length cp) ∧ W.cell? ⟨B, 10, none⟩ = some (.int .i64 l.com.pos) ∧ W.cell? ⟨B, 11, none⟩ = some (.int .i64 l.com.ses) ∧ W.cell? ⟨B, 12, none⟩ = some (.int .i64 l.com.seq) ∧ W.cell? ⟨B, 13, none⟩ = some (.slice A2 l.nodes.length cp2))
        (refine hcm'.out _ ?_ <;> first | assumption | exact Below.drew hb3'.out | exact hb3'.out)
        (first
          | (go_at_call 19; refine (cC'.out _ hb3'.out).mono ?_; rintro e w4 ⟨u, rfl, hu, hb4, hbz⟩; have hb4' : Below w3.heap.size w3 w4 := ⟨hb4.os, hb4.tape, hb4.output, hb4.size, hb4.block⟩)
          | (go_at_call 19; refine (cC'.out _ (Below.drew hb3'.out)).mono ?_; rintro e w4 ⟨u, rfl, hu, hb4, hbz⟩; have hb4' : Below w3.heap.size w3 w4 := ⟨hb4.os, hb4.tape, hb4.output, hb4.size, hb4.block⟩)
          | (refine step_row (by rfl) _ _ (by rfl) Z _ (wrd l.term ++ [kb]) _ _ (comB l.com) (by rfl) (by rfl) hu (comB_pos _) (hid3.out.kept hb4') hroom (by have := hb4'.size; omega) ?_; intro g5 cap5 w5 h5; have hb5 := h5.below (hid3.out.kept hb4') hbz (by have := hb4'.size; omega)))
      all_goals
        have hown5 := Lib.hid h5.own
        have hbf := Lib.hid (hb0'.out.trans (hb5.mono (by omega)))
        clear h5 hb5 hb4 hb4' hbz hu cC' cZ' hcm'
        by_cases hnd : l.nodes = []
        · have hg : some (wrd l.term ++ ([1] ++ comB l.com)) = goal := by
            rw [← hgoal'.out]
            unfold logB
            simp [hk1, hnd]
          have hfin := Lib.hid (own_fin hown5.out (by omega : w.heap.size ≤ Z) (show _ = wrd l.term ++ ([1] ++ comB l.com) by rw [← hkb, hk1]; simp [kB_1]))
          have hq : ((l.nodes.length : Int) == 0) = true := by rw [hnd]; rfl
          have hg' := Lib.hid hg
          clear hg hnd hgoal hgoal'
          go_wp2
          go_ret2
          refine ⟨_, _, rfl, ?_, hbf.out⟩
          show LogR goal _ _ ((l.nodes.length : Int) == 0) _
          rw [hq]
          exact logR_some hg'.out hfin.out
        · have hg : none = goal := by
            rw [← hgoal'.out]
            unfold logB
            simp [hk1, hnd]
          have hq : ((l.nodes.length : Int) == 0) = false := by
            have := List.length_pos_iff.2 hnd
            simp
            omega
          have hg' := Lib.hid hg
          clear hg hnd hgoal hgoal'
          go_wp2
          go_ret2
          refine ⟨_, _, rfl, ?_, hbf.out⟩
          show LogR goal _ _ ((l.nodes.length : Int) == 0) _
          rw [hq]
          exact logR_none hg'.out
    by_cases hk2 : l.kind = 2
    · have e0 : (l.kind == 0) = false := by rw [hk2]; rfl
      have e1 : (l.kind == 1) = false := by rw [hk2]; rfl
      have e2 : (l.kind == 2) = true := by rw [hk2]; rfl
      have c13 := Lib.cell_of_heap hbx3.out 13
      clear hgoal
      go_wp2_with fail
      go_at_call 37
      refine (refNumber_any w3 Z _ _ (l.nodes.length : Int) hid3.out (by rw [List.length_append, wrd_len]; simp) hzz).mono ?_
      rintro e w4 ⟨v4, rfl, h4⟩
      have hN4 : Z ≤ w4.heap.size := Nat.le_trans hzz h4.kp.size
      have hid4 := Lib.hid h4
      obtain ⟨l4, hl4⟩ : ∃ y, wrd l.term ++ [kb] ++ wrd (l.nodes.length : Int) = y := ⟨_, rfl⟩
      rw [hl4] at hid4 h4
      have n4 : l4.length ≤ 17 := by rw [← hl4, List.length_append, List.length_append, wrd_len, wrd_len]; exact Nat.le_refl _
      obtain ⟨a4, d4, rfl⟩ := h4.own.form
      have hbw4 := Lib.hid (h4.below hid3.out hb3'.out hzz)
      have c13b := Lib.cell_of_heap ((hbw4.out.block B hgl).trans hbox'.out) 13
      have hl4' := Lib.hid hl4
      clear h4 hl4 c13
      go_wp2
      go_loopw [4, 50] (fun s4 s50 wr => ∃ k : Nat, s50 = .int .i64 (k : Int) ∧ k ≤ l.nodes.length ∧ Hid (Wr Z w4 wr (.slice a4 l4.length d4) s4 (l4 ++ upK wrd l.nodes k))) (fun _ s50 wr => l.nodes.length - (RowKit.intOf s50).toNat)
      case atStart => exact ⟨0, by rfl, Nat.zero_le _, Lib.hid (by rw [upK_zero, List.append_nil]; exact Wr.refl hid4.out.own)⟩
      case round =>
        obtain ⟨k, rfl, hk, hW⟩ := hrel
        obtain ⟨x, hx⟩ : ∃ x, l4 ++ upK wrd l.nodes k = x := ⟨_, rfl⟩
        rw [hx] at hW
        have hxl : x.length ≤ 17 + 8 * l.nodes.length := by rw [← hx, List.length_append, upK_wrd]; have := Nat.min_le_right k l.nodes.length; omega
        have hx' := Lib.hid hx
        obtain ⟨a9, d9, rfl⟩ := hW.out.own.form
        have hbw := Lib.hid (hW.out.below hid4.out.own hbw4.out hN4)
        have hrs : Z ≤ wr.heap.size := Nat.le_trans hN4 hW.out.kp.size
        by_cases hlt : k < l.nodes.length
        · obtain ⟨z, hz⟩ : ∃ z, l.nodes[k]? = some z := ⟨_, List.getElem?_eq_getElem hlt⟩
          obtain ⟨rfl, hnb⟩ := hm4.out.1 (by omega)
          have hcw : w.cell? ⟨mb, off2 + k, none⟩ = some (.int .i64 z) := hm4.out.2 k z hz
          have hcc : wr.cell? ⟨mb, off2 + k, none⟩ = some (.int .i64 z) := by rw [hbw.out.cell (p := ⟨mb, off2 + k, none⟩) (by show mb < Z; omega), hb0'.out.cell (p := ⟨mb, off2 + k, none⟩) hnb]; exact hcw
          have hup := Lib.hid (upK_succ wrd hz)
          clear hx hcw hz
          go_wp2_with fail
          go_at_call 37
          refine (refNumber_any wr Z _ x z hW.out.own (by omega) hrs).mono ?_
          rintro e w5 ⟨v5, rfl, h5⟩
          have hid5 := Lib.hid (hW.out.then h5)
          clear h5
          go_wp2
          go_roundw
          case rel => exact ⟨k + 1, by go_num, by omega, Lib.hid (by rw [hup.out, ← List.append_assoc, hx'.out]; exact hid5.out)⟩
          case measure => simp [RowKit.intOf]; omega
        · obtain rfl : k = l.nodes.length := by omega
          have hxe := Lib.hid (show x = l4 ++ (l.nodes.map wrd).flatten by rw [← hx, upK_all wrd (Nat.le_refl _)])
          clear hx hx'
          obtain ⟨_, g2, g3, g4, g5, g6, g7, g8, g9, g10, g11, g12, g13⟩ := hcm'.out wr hbw.out
          go_wp2_with fail
          go_at_call 17
          refine (cZ'.out wr hbw.out).mono ?_
          rintro e w6 ⟨rfl, hb6, hbz⟩
          have hown6 := Lib.hid (hW.out.own.kept hb6)
          have hbf := Lib.hid (hb0'.out.trans (hbz.mono (by omega)))
          clear g2 g3 g4 g5 g6 g7 g8 g9 g10 g11 g12 g13 hb6 hbz cC' cZ' hcm'
          by_cases hnd : l.com = com0
          · have hg : some (wrd l.term ++ ([2] ++ rows wrd l.nodes)) = goal := by
              rw [← hgoal'.out]
              unfold logB
              simp [hk2, hnd]
            have hfin := Lib.hid (own_fin hown6.out (by omega : w.heap.size ≤ Z) (show _ = wrd l.term ++ ([2] ++ rows wrd l.nodes) by
              rw [hxe.out, ← hl4'.out, ← hkb, hk2, kB_2, wrd_nat hD']
              unfold rows
              simp))
            have hq : decide (l.com = com0) = true := decide_eq_true hnd
            have hg' := Lib.hid hg
            clear hg hnd hgoal'
            go_wp2
            go_ret2
            first | exact ⟨_, _, rfl, (logR_some hg'.out hfin.out), hbf.out⟩ | exact ⟨(logR_some hg'.out hfin.out), hbf.out⟩ | exact ⟨_, _, ⟨rfl, rfl⟩, (logR_some hg'.out hfin.out), hbf.out⟩
          · have hg : none = goal := by
              rw [← hgoal'.out]
              unfold logB
              simp [hk2, hnd]
            have hq : decide (l.com = com0) = false := decide_eq_false hnd
            have hg' := Lib.hid hg
            clear hg hnd hgoal'
            go_wp2
            go_ret2
            first | exact ⟨_, _, rfl, (logR_none hg'.out), hbf.out⟩ | exact ⟨(logR_none hg'.out), hbf.out⟩ | exact ⟨_, _, ⟨rfl, rfl⟩, (logR_none hg'.out), hbf.out⟩
    by_cases hk0 : l.kind = 0
    · have e0 : (l.kind == 0) = true := by rw [hk0]; rfl
      obtain ⟨_, g2, g3, g4, g5, g6, g7, g8, g9, g10, g11, g12, g13⟩ := hcm'.out w3 hb3'.out
      by_cases hz : l.com = com0
      · have hdz : decide (l.com = com0) = true := decide_eq_true hz
        rw [hdz] at cZ'
        have hz' := Lib.hid hz
        clear hz hdz
        go_wp2_with fail
        go_region_law (first
            | (go_simp; go_at_call 17; refine (cZ'.out _ hb3'.out).mono ?_; rintro e w4 ⟨rfl, hb4, hbz⟩; obtain ⟨_, k2, k3, k4, k5, k6, k7, k8, k9, k10, k11, k12, k13⟩ := hcm'.out w4 hbz; have hb4' : Below w3.heap.size w3 w4 := ⟨hb4.os, hb4.tape, hb4.output, hb4.size, hb4.block⟩)
            | (go_simp; go_at_call 17; refine (cZ'.out _ (Below.drew hb3'.out)).mono ?_; rintro e w4 ⟨rfl, hb4, hbz⟩; obtain ⟨_, k2, k3, k4, k5, k6, k7, k8, k9, k10, k11, k12, k13⟩ := hcm'.out w4 hbz; have hb4' : Below w3.heap.size w3 w4 := ⟨hb4.os, hb4.tape, hb4.output, hb4.size, hb4.block⟩))
        all_goals
          have hown4 := Lib.hid (hid3.out.kept hb4')
          have hbf := Lib.hid (hb0'.out.trans (hbz.mono (by omega)))
          clear hb4 hb4' hbz g2 g3 g4 g5 g6 g7 g8 g9 g10 g11 g12 g13 k2 k3 k4 k5 k6 k7 k8 k9 k10 k11 k12 k13 cC' cZ' hcm'
          by_cases hnd : l.nodes = []
          · have hg : some (wrd l.term ++ [0]) = goal := by
              rw [← hgoal'.out]
              unfold logB
              simp [hk0, hnd, hz'.out]
            have hfin := Lib.hid (own_fin hown4.out (by omega : w.heap.size ≤ Z) (show _ = wrd l.term ++ [0] by rw [← hkb, hk0, kB_0]))
            have hq : ((l.nodes.length : Int) == 0) = true := by rw [hnd]; rfl
            have hg' := Lib.hid hg
            clear hg hnd hgoal hgoal'
            go_wp2
            go_ret2
            refine ⟨_, _, rfl, ?_, hbf.out⟩
            show LogR goal _ _ ((l.nodes.length : Int) == 0) _
            rw [hq]
            exact logR_some hg'.out hfin.out
          · have hg : none = goal := by
              rw [← hgoal'.out]
              unfold logB
              simp [hk0, hnd]
            have hq : ((l.nodes.length : Int) == 0) = false := by
              have := List.length_pos_iff.2 hnd
              simp
              omega
            have hg' := Lib.hid hg
            clear hg hnd hgoal hgoal'
            go_wp2
            go_ret2
            refine ⟨_, _, rfl, ?_, hbf.out⟩
            show LogR goal _ _ ((l.nodes.length : Int) == 0) _
            rw [hq]
            exact logR_none hg'.out
      · have hdz : decide (l.com = com0) = false := decide_eq_false hz
        rw [hdz] at cZ'
        have hz' := Lib.hid hz
        clear hz hdz
        go_wp2_with fail
        first
        | (go_region_law (first
            | (go_simp; go_at_call 17; refine (cZ'.out _ hb3'.out).mono ?_; rintro e w4 ⟨rfl, hb4, hbz⟩; have hb4' : Below w3.heap.size w3 w4 := ⟨hb4.os, hb4.tape, hb4.output, hb4.size, hb4.block⟩)
            | (go_simp; go_at_call 17; refine (cZ'.out _ (Below.drew hb3'.out)).mono ?_; rintro e w4 ⟨rfl, hb4, hbz⟩; have hb4' : Below w3.heap.size w3 w4 := ⟨hb4.os, hb4.tape, hb4.output, hb4.size, hb4.block⟩)))
        | fail
        all_goals
          have hbf := Lib.hid (hb0'.out.trans (hbz.mono (by omega)))
          have hg : none = goal := by
            rw [← hgoal'.out]
            unfold logB
            simp [hk0, hz'.out]
          have hg' := Lib.hid hg
          clear hb4 hb4' hbz g2 g3 g4 g5 g6 g7 g8 g9 g10 g11 g12 g13 cC' cZ' hcm' hg hgoal hgoal'
          go_wp2
          go_ret2
          refine ⟨_, _, rfl, ?_, hbf.out⟩
          exact logR_none hg'.out
    · have e0 : (l.kind == 0) = false := by simpa using hk0
      have e1 : (l.kind == 1) = false := by simpa using hk1
      have e2 : (l.kind == 2) = false := by simpa using hk2
      have hg : goal = none := by
        rw [← hgoal'.out]
        unfold logB
        simp [hk0, hk1, hk2]
      have hbf := Lib.hid (hb0'.out.trans (hb3'.out.mono (by omega)))
      have hg' := Lib.hid hg.symm
      clear hg hgoal hgoal'
      go_wp2
      go_ret2
      first | exact ⟨_, _, rfl, (logR_none hg'.out), hbf.out⟩ | exact ⟨(logR_none hg'.out), hbf.out⟩ | exact ⟨_, _, ⟨rfl, rfl⟩, (logR_none hg'.out), hbf.out⟩
end Go.Proofs.Ytpngbfmbjldieaa.Cd
