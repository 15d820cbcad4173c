/-
  CodecApart: unlike commands have unlike bytes. (Written by tools/genapart.py.)
-/
import Derived.Test.YtpngbfmbjldieaaCodApartP
import Derived.Test.YtpngbfmbjldieaaRegHeld
import Derived.Deep.CutRange
set_option linter.unusedVariables false
namespace Go.Proofs.Ytpngbfmbjldieaa.Ly
open Go.Lib Go.RowKit
open Bo (Kp Row ownsRow_heap sv sv_data)
open Cd (St Com comS comV comC com0 comB okCom cod_com comB_len flatN RowsAt StrsAt encS WrR infoStr isT isC is64 rows_of len_flat text_pos)

theorem sv_size {l : Row} {t : ByteArray} (h : sv l = .string t) : t.size = l.length := by
  unfold sv at h
  injection h with h
  rw [← h]
  show l.toArray.size = _
  simp
theorem strs_of {w : World} {B n : Nat} {v : Value} {xs : List Row} (h : w.ownsRow B 9 1 v n (xs.flatMap encS)) (hn : xs.length = n) : StrsAt w v xs := by
  subst hn
  exact rows_of (fun _ => rfl) (by decide) h
theorem flat_snoc (xs : List Row) (y : Row) : flatN text (xs ++ [y]) = flatN text xs + (text y).length := by
  unfold flatN
  rw [List.map_append, List.flatten_append, List.length_append]
  simp
theorem ok_snoc {xs : List Row} {y : Row} (h : isC xs.length ∧ ∀ x ∈ xs, isT x) (hn : xs.length ≤ 1048576) (hy : y.length ≤ 16777216) : isC (xs ++ [y]).length ∧ ∀ x ∈ xs ++ [y], isT x := by
  refine ⟨by unfold isC; rw [List.length_append]; simp; omega, fun x hx => ?_⟩
  rcases List.mem_append.1 hx with hx | hx
  · exact h.2 x hx
  · simp at hx
    subst hx
    unfold isT isC
    omega
theorem str_empty {s : ByteArray} (h : ¬ s.size = 0) : s.data.toList ≠ [] := by
  intro e
  have := congrArg List.length e
  rw [← Lib.size_eq] at this
  exact h this

set_option maxHeartbeats 32000000 in
set_option maxRecDepth 100000 in
theorem apart_walk (w : World) (c : Com) (nv : Value) (z : Int) (s : ByteArray) (ha : StrsAt w nv c.names) (ho : okCom c) (hs : s.size ≤ 1048576) (hL : 88 + c.book.length + c.name.length + c.data.length + c.mat.length + c.non.length + c.tok.length + flatN text c.names ≤ 16777216) :
    Calls Try.prog 4 #[comV c nv, .int .i64 z, .string s] w fun e w' => e = .returned (.bool true) ∧ Below w.heap.size w w' := by
  have hln := len_flat text_pos c.names
  obtain ⟨A, nb, off, cp, rfl, -, -, -, -⟩ := id ha
  obtain ⟨w1, hw1⟩ : ∃ w1, w.alloc (.cells (comC c (.slice A c.names.length cp)) 27) = w1 := ⟨_, rfl⟩
  have hb1 : Below w.heap.size w w1 := by rw [← hw1]; exact below_one _ _
  have hbox : w1.heap[w.heap.size]? = some (.cells (comC c (.slice A c.names.length cp)) 27 (0, 0)) := by rw [← hw1]; exact heap_alloc_new w _
  have hlt := (Array.getElem?_eq_some_iff.1 hbox).1
  obtain ⟨B, hB⟩ : ∃ B, w.heap.size = B := ⟨_, rfl⟩
  rw [hB] at hbox hlt
  have hst : ∀ W, Below w1.heap.size w1 W → (∀ j, W.cell? ⟨B, j, none⟩ = (comC c (.slice A c.names.length cp))[j]?) ∧ StrsAt W (.slice A c.names.length cp) c.names ∧ Below w.heap.size w W := fun W h => ⟨fun j => Lib.cell_of_heap ((h.block B hlt).trans hbox) j, (ha.kept hb1).kept h, hb1.trans (h.mono hb1.size)⟩
  have hst' := Lib.hid hst
  have ho' := Lib.hid ho
  obtain ⟨n, hn⟩ : ∃ n, c.names.length = n := ⟨_, rfl⟩
  have hn' := Lib.hid hn
  unfold comV
  unfold comC at hw1 ⊢
  rw [hn] at hw1 hst' hln ⊢
  clear hb1 hbox ha hst ho hn
  have cF := first_any w1
  go_enter Try.func4, Try.ntmps4
  go_wp2_with fail
  go_at_call 9
  refine cF.mono ?_
  rintro e w2 ⟨rfl, hb2⟩
  have hb2' := Lib.hid hb2
  have d7 : w2.cell? ⟨B, 7, none⟩ = some (.slice A n cp) := (hst'.out w2 hb2).1 7
  by_cases h300 : 300 < n
  · have g1 : decide (300 < n) = true := decide_eq_true h300
    have g2 : decide ((300 : Int) < (n : Int)) = true := decide_eq_true (by omega)
    have hF := Lib.hid (hst'.out w2 hb2).2.2
    clear hb2 h300 cF
    go_wp2
    go_ret
    exact ⟨rfl, hF.out⟩
  have g1 : decide (300 < n) = false := decide_eq_false h300
  have g2 : decide ((300 : Int) < (n : Int)) = false := decide_eq_false (by omega)
  by_cases hse : s.size = 0
  · have he : s.toList.isEmpty = true := by rw [Lib.toList_data, List.isEmpty_iff]; exact List.eq_nil_of_length_eq_zero (by rw [← Lib.size_eq]; exact hse)
    have hF := Lib.hid (hst'.out w2 hb2).2.2
    clear hb2 h300 cF
    go_wp2
    go_ret
    exact ⟨rfl, hF.out⟩
  have hsd := str_empty hse
  have hn300 : n ≤ 300 := by omega
  have he : s.toList.isEmpty = false := by rw [Lib.toList_data, Bool.eq_false_iff]; intro hq; exact hsd (List.isEmpty_iff.1 hq)
  obtain ⟨t1, e1⟩ : ∃ t : ByteArray, sv c.book = .string t := ⟨_, rfl⟩
  obtain ⟨t2, e2⟩ : ∃ t : ByteArray, sv c.name = .string t := ⟨_, rfl⟩
  obtain ⟨t3, e3⟩ : ∃ t : ByteArray, sv c.data = .string t := ⟨_, rfl⟩
  obtain ⟨t4, e4⟩ : ∃ t : ByteArray, sv c.mat = .string t := ⟨_, rfl⟩
  obtain ⟨t5, e5⟩ : ∃ t : ByteArray, sv c.non = .string t := ⟨_, rfl⟩
  obtain ⟨t6, e6⟩ : ∃ t : ByteArray, sv c.tok = .string t := ⟨_, rfl⟩
  have EE := Lib.hid (And.intro e1 (And.intro e2 (And.intro e3 (And.intro e4 (And.intro e5 e6)))))
  have hcs := (hst'.out w2 hb2).1
  have d0 : w2.cell? ⟨B, 0, none⟩ = some (.int .i64 c.op) := by rw [hcs]; rfl
  have d1 : w2.cell? ⟨B, 1, none⟩ = some (.string t1) := by rw [hcs]; exact congrArg some e1
  have d2 : w2.cell? ⟨B, 2, none⟩ = some (.string t2) := by rw [hcs]; exact congrArg some e2
  have d3 : w2.cell? ⟨B, 3, none⟩ = some (.string t3) := by rw [hcs]; exact congrArg some e3
  have d4 : w2.cell? ⟨B, 4, none⟩ = some (.string t4) := by rw [hcs]; exact congrArg some e4
  have d5 : w2.cell? ⟨B, 5, none⟩ = some (.string t5) := by rw [hcs]; exact congrArg some e5
  have d6 : w2.cell? ⟨B, 6, none⟩ = some (.string t6) := by rw [hcs]; exact congrArg some e6
  have d8 : w2.cell? ⟨B, 8, none⟩ = some (.int .i64 c.pos) := by rw [hcs]; rfl
  have d9 : w2.cell? ⟨B, 9, none⟩ = some (.int .i64 c.ses) := by rw [hcs]; rfl
  have d10 : w2.cell? ⟨B, 10, none⟩ = some (.int .i64 c.seq) := by rw [hcs]; rfl
  rw [e1, e2, e3, e4, e5, e6]
  clear hb2 cF hcs e1 e2 e3 e4 e5 e6 h300
  go_upto_region 6 with fail
  obtain ⟨w3, hw3⟩ : ∃ x, w2.alloc (.cells #[.int .i64 c.op, .string t1, .string t2, .string t3, .string t4, .string t5, .string t6, .slice A n cp, .int .i64 c.pos, .int .i64 c.ses, .int .i64 c.seq] 27) = x := ⟨_, rfl⟩
  have hb3 : Below w2.heap.size w2 w3 := by rw [← hw3]; exact below_one _ _
  have hbx : w3.heap[w2.heap.size]? = some (.cells #[.int .i64 c.op, .string t1, .string t2, .string t3, .string t4, .string t5, .string t6, .slice A n cp, .int .i64 c.pos, .int .i64 c.ses, .int .i64 c.seq] 27 (0, 0)) := by rw [← hw3]; exact heap_alloc_new w2 _
  have hlt3 := (Array.getElem?_eq_some_iff.1 hbx).1
  obtain ⟨D, hD⟩ : ∃ x, w2.heap.size = x := ⟨_, rfl⟩
  rw [hD] at hbx hlt3
  rw [hw3, hD]
  have hs3 : w3.heap.size = D + 1 := by rw [← hw3, ← hD]; simp
  have hb3' := Lib.hid hb3
  have hbx' := Lib.hid hbx
  have h3st := hst'.out w3 (hb2'.out.trans (hb3.mono hb2'.out.size))
  have h37 : w3.cell? ⟨B, 7, none⟩ = some (.slice A n cp) := h3st.1 7
  have hS3 := Lib.hid h3st.2.1
  have hb3D := Lib.hid (show Below D w2 w3 by rw [← hD]; exact hb3)
  have hE := Lib.hid (⟨rfl, .inr ⟨w3.heap.size, 0, #[], rfl, by omega, heap_alloc_new w3 _, Nat.le_refl _, Nat.zero_le _, rfl, rfl⟩⟩ : (w3.alloc (.cells #[] 9)).ownsRow (D + 1) 9 1 (.slice (some ⟨w3.heap.size, 0, none⟩) 0 0) 0 [])
  have hx6 := Lib.hid (hbx'.out)
  have hb4 := Lib.hid (below_one w3 (.cells #[] 9))
  have hS4 := Lib.hid (hS3.out.kept hb4.out)
  have hsz4 : D + 1 ≤ (w3.alloc (.cells #[] 9)).heap.size := by have := hb4.out.size; omega
  have hs3' := Lib.hid hs3
  have hBD : B < D := by have := hb2'.out.size; omega
  have hBW : B < w3.heap.size := by omega
  have hDW : D < w3.heap.size := by omega
  clear hw3 hb3 hbx h3st hs3 d0 d1 d2 d3 d4 d5 d6 d7 d8 d9 d10
  go_cut [] from 23 to 27 (fun wx => ∃ g cap, Hid (wx.heap[D]? = some (.cells #[.int .i64 c.op, .string t1, .string t2, .string t3, .string t4, .string t5, .string t6, .slice (some ⟨g, 0, none⟩) n cap, .int .i64 c.pos, .int .i64 c.ses, .int .i64 c.seq] 27 (0, 0)) ∧ wx.ownsRow (D + 1) 9 1 (.slice (some ⟨g, 0, none⟩) n cap) n (c.names.flatMap encS) ∧ Below D w2 wx))
  case first =>
    by_cases hn0 : n = 0
    · subst hn0
      have hnil : c.names = [] := List.eq_nil_of_length_eq_zero hn'.out
      obtain ⟨v0, hv0⟩ : ∃ v, Value.slice (some ⟨w3.heap.size, 0, none⟩) 0 0 = v := ⟨_, rfl⟩
      have hsz0 : (w3.setCell ⟨D, 7, none⟩ v0).heap.size = w3.heap.size := by simp
      have hF1 := (Below.heap_alloc (w3.setCell ⟨D, 7, none⟩ v0) (.cells #[] 9) D (by omega)).trans (set_heap hbx'.out 7 v0)
      have hnew0 := heap_alloc_new (w3.setCell ⟨D, 7, none⟩ v0) (.cells #[] 9)
      rw [hsz0] at hnew0
      have hF2 : ((w3.setCell ⟨D, 7, none⟩ v0).alloc (.cells #[] 9)).ownsRow (D + 1) 9 1 (.slice (some ⟨w3.heap.size, 0, none⟩) 0 0) 0 [] := ⟨rfl, .inr ⟨w3.heap.size, 0, #[], rfl, by omega, hnew0, Nat.le_refl _, Nat.zero_le _, rfl, rfl⟩⟩
      have hF3 : Below D w2 ((w3.setCell ⟨D, 7, none⟩ v0).alloc (.cells #[] 9)) := (hb3D.out.setCell (p := ⟨D, 7, none⟩) (Nat.le_refl D) v0).alloc (by omega) _
      rw [← hv0] at hF1 hF2 hF3
      have hF := Lib.hid (And.intro hF1 (And.intro hF2 hF3))
      clear hF1 hF2 hF3 hnew0 hsz0 hv0
      have f7 : w3.cell? ⟨D, 7, none⟩ = some (.slice A 0 cp) := Lib.cell_of_heap hbx'.out 7
      have fr7 : w3.frozen? ⟨D, 7, none⟩ = false := Lib.frozen_of_heap hbx'.out 7
      go_wp2_with (first
        | (at_builtin; refine append_strs0 rfl _ _ rfl (D + 1) _ 0 [] _ _ rfl rfl hE.out ?_)
        | fail)
      go_meet
      case rel => exact ⟨w3.heap.size, 0, Lib.hid ⟨hF.out.1, by rw [hnil]; exact hF.out.2.1, hF.out.2.2⟩⟩
    · have hsp : 0 < c.names.length := by rw [hn'.out]; omega
      have hlr : ([] : List Row).length + c.names.length ≤ 1099511627776 := by rw [hn'.out]; simp; omega
      have hfr : ∀ g cap w', WrR 9 1 encS (D + 1) (w3.alloc (.cells #[] 9)) w' (.slice (some ⟨w3.heap.size, 0, none⟩) 0 0) (.slice (some ⟨g, 0, none⟩) n cap) c.names → w'.cell? ⟨D, 7, none⟩ = some (.slice A n cp) ∧ w'.frozen? ⟨D, 7, none⟩ = false ∧ (w'.setCell ⟨D, 7, none⟩ (.slice (some ⟨g, 0, none⟩) n cap)).heap[D]? = some (.cells #[.int .i64 c.op, .string t1, .string t2, .string t3, .string t4, .string t5, .string t6, .slice (some ⟨g, 0, none⟩) n cap, .int .i64 c.pos, .int .i64 c.ses, .int .i64 c.seq] 27 (0, 0)) ∧ (w'.setCell ⟨D, 7, none⟩ (.slice (some ⟨g, 0, none⟩) n cap)).ownsRow (D + 1) 9 1 (.slice (some ⟨g, 0, none⟩) n cap) n (c.names.flatMap encS) ∧ Below D w2 (w'.setCell ⟨D, 7, none⟩ (.slice (some ⟨g, 0, none⟩) n cap)) := fun g cap w' hW => by
        have hk := (hW.kp.block D (by have := hb4.out.size; omega) (by simp [Value.ownBlock]; omega)).trans ((hb4.out.block D hlt3).trans hbx'.out)
        have hO := hW.own
        rw [hn'.out] at hO
        have hB1 : Below D w2 w' := hW.kp.below (hb3D.out.trans (hb4.out.mono (by omega))) (fun q hq => by
          have : q = w3.heap.size := by simpa [Value.ownBlock] using hq
          omega) (by have := hb4.out.size; omega)
        exact ⟨Lib.cell_of_heap hk 7, Lib.frozen_of_heap hk 7, set_heap hk 7 _, ownsRow_heap hO fun q hq => Below.heap_setCell _ ⟨D, 7, none⟩ _ q (by have := (World.ownsRow.lt hO q hq).1; show q ≠ D; omega), hB1.setCell (p := ⟨D, 7, none⟩) (Nat.le_refl D) _⟩
      have hfr' := Lib.hid hfr
      clear hfr
      go_wp2_with (first
        | (at_builtin; refine append_strsL rfl _ _ rfl (D + 1) _ [] _ c.names rfl rfl hS4.out hsp hE.out hlr hsz4 n (by rw [hn'.out]; simp) c.names rfl ?_; intro g6 cap6 w6 hw6; obtain ⟨y1, y2, y3⟩ := hfr'.out g6 cap6 w6 hw6; have hF := Lib.hid y3; clear y3 hw6)
        | fail)
      go_meet
      case rel => exact ⟨_, _, hF⟩
  case rest =>
    obtain ⟨g, cap, hC⟩ := hcut
    obtain ⟨k8, hk8, hk8e⟩ : ∃ k : Nat, k < 8 ∧ (IntKind.u64.wrap z).tmod 8 = (k : Int) := by
      obtain ⟨k, hk, hke⟩ := rem_of z 8 (by omega) (by omega)
      have h0 : 0 ≤ IntKind.u64.wrap z := by
        unfold IntKind.wrap
        simp only [IntKind.bits, IntKind.signed, Bool.false_and, Bool.false_eq_true, if_false]
        omega
      have h1 : 0 ≤ (IntKind.u64.wrap z).tmod 8 := Int.tmod_nonneg _ h0
      have h2 : (IntKind.u64.wrap z).tmod 8 < 8 := Int.tmod_lt_of_pos _ (by omega)
      exact ⟨((IntKind.u64.wrap z).tmod 8).toNat, by omega, by omega⟩
    have hk8e' := Lib.hid hk8e
    clear hk8e
    go_upto_region 7 with fail
    rename_i K7 a7
    have ha7 := Lib.hid a7
    clear a7
    go_wp2_with fail
    rw [hk8e'.out]
    refine ha7.out _ _ ?_
    clear ha7
    go_cut [] from 31 to 84 (fun wx => ∃ (d : Com) (nv : Value), Hid (okCom d ∧ d ≠ c ∧ 88 + d.book.length + d.name.length + d.data.length + d.mat.length + d.non.length + d.tok.length + flatN text d.names ≤ 33554432 ∧ wx.heap[D]? = some (.cells (comC d nv) 27 (0, 0)) ∧ StrsAt wx nv d.names ∧ Below D w2 wx))
    case first =>
      obtain ⟨o0, o1, o2, o3, o4, o5, o6, ⟨o7, o7b⟩, o8, o9, o10⟩ := ho'.out
      obtain ⟨e1, e2, e3, e4, e5, e6⟩ := EE.out
      have zs := Lib.size_eq s
      have z1 := sv_size e1
      have z2 := sv_size e2
      have z3 := sv_size e3
      have z4 := sv_size e4
      have z5 := sv_size e5
      have z6 := sv_size e6
      have hDc := (Array.getElem?_eq_some_iff.1 hC.out.1).1
      have hcon : ∀ j v, StrsAt (wc.setCell ⟨D, j, none⟩ v) (.slice (some ⟨g, 0, none⟩) n cap) c.names ∧ Below D w2 (wc.setCell ⟨D, j, none⟩ v) := fun j v => ⟨strs_of (ownsRow_heap hC.out.2.1 fun q hq => Below.heap_setCell _ ⟨D, j, none⟩ v q (by have := (World.ownsRow.lt hC.out.2.1 q hq).1; show q ≠ D; omega)) hn'.out, hC.out.2.2.setCell (p := ⟨D, j, none⟩) (Nat.le_refl D) v⟩
      have hcon' := Lib.hid hcon
      clear hcon
      have hk : k8 = 0 ∨ k8 = 1 ∨ k8 = 2 ∨ k8 = 3 ∨ k8 = 4 ∨ k8 = 5 ∨ k8 = 6 ∨ k8 = 7 := by omega
      rcases hk with rfl | rfl | rfl | rfl | rfl | rfl | rfl | rfl
      · have hb : sv (c.book ++ s.data.toList) = .string (t1 ++ s) := (sv_app t1 s c.book e1).symm
        have hh : (wc.setCell ⟨D, 1, none⟩ (.string (t1 ++ s))).heap[D]? = some (.cells (comC { c with book := c.book ++ s.data.toList } (.slice (some ⟨g, 0, none⟩) n cap)) 27 (0, 0)) := by
          have h := set_heap hC.out.1 1 (.string (t1 ++ s))
          unfold comC
          dsimp only
          rw [hb, e2, e3, e4, e5, e6]
          exact h
        have hne : ({ c with book := c.book ++ s.data.toList } : Com) ≠ c := fun e => by
          have := congrArg (fun y : Com => y.book.length) e
          simp only [List.length_append] at this
          omega
        have hok : okCom { c with book := c.book ++ s.data.toList } := ⟨o0, by unfold isT isC; rw [List.length_append]; omega, o2, o3, o4, o5, o6, ⟨o7, o7b⟩, o8, o9, o10⟩
        have hlb : 88 + (c.book ++ s.data.toList).length + c.name.length + c.data.length + c.mat.length + c.non.length + c.tok.length + flatN text c.names ≤ 33554432 := by rw [List.length_append]; omega
        have hF := Lib.hid (And.intro hok (And.intro hne (And.intro hlb (And.intro hh (hcon'.out 1 (.string (t1 ++ s)))))))
        have f0 : wc.cell? ⟨D, 1, none⟩ = some (.string t1) := Lib.cell_of_heap hC.out.1 1
        have f1 : wc.frozen? ⟨D, 1, none⟩ = false := Lib.frozen_of_heap hC.out.1 1
        have hzz : t1.size + s.size ≤ 9223372036854775807 := by omega
        clear hb hh hne hok hlb e1 e2 e3 e4 e5 e6 o0 o1 o2 o3 o4 o5 o6 o7 o7b o8 o9 o10 zs z1 z2 z3 z4 z5 z6
        go_wp2
        go_meet
        case rel => exact ⟨_, _, hF⟩
      · have hb : sv (c.name ++ s.data.toList) = .string (t2 ++ s) := (sv_app t2 s c.name e2).symm
        have hh : (wc.setCell ⟨D, 2, none⟩ (.string (t2 ++ s))).heap[D]? = some (.cells (comC { c with name := c.name ++ s.data.toList } (.slice (some ⟨g, 0, none⟩) n cap)) 27 (0, 0)) := by
          have h := set_heap hC.out.1 2 (.string (t2 ++ s))
          unfold comC
          dsimp only
          rw [hb, e1, e3, e4, e5, e6]
          exact h
        have hne : ({ c with name := c.name ++ s.data.toList } : Com) ≠ c := fun e => by
          have := congrArg (fun y : Com => y.name.length) e
          simp only [List.length_append] at this
          omega
        have hok : okCom { c with name := c.name ++ s.data.toList } := ⟨o0, o1, by unfold isT isC; rw [List.length_append]; omega, o3, o4, o5, o6, ⟨o7, o7b⟩, o8, o9, o10⟩
        have hlb : 88 + c.book.length + (c.name ++ s.data.toList).length + c.data.length + c.mat.length + c.non.length + c.tok.length + flatN text c.names ≤ 33554432 := by rw [List.length_append]; omega
        have hF := Lib.hid (And.intro hok (And.intro hne (And.intro hlb (And.intro hh (hcon'.out 2 (.string (t2 ++ s)))))))
        have f0 : wc.cell? ⟨D, 2, none⟩ = some (.string t2) := Lib.cell_of_heap hC.out.1 2
        have f1 : wc.frozen? ⟨D, 2, none⟩ = false := Lib.frozen_of_heap hC.out.1 2
        have hzz : t2.size + s.size ≤ 9223372036854775807 := by omega
        clear hb hh hne hok hlb e1 e2 e3 e4 e5 e6 o0 o1 o2 o3 o4 o5 o6 o7 o7b o8 o9 o10 zs z1 z2 z3 z4 z5 z6
        go_wp2
        go_meet
        case rel => exact ⟨_, _, hF⟩
      · have hb : sv (c.data ++ s.data.toList) = .string (t3 ++ s) := (sv_app t3 s c.data e3).symm
        have hh : (wc.setCell ⟨D, 3, none⟩ (.string (t3 ++ s))).heap[D]? = some (.cells (comC { c with data := c.data ++ s.data.toList } (.slice (some ⟨g, 0, none⟩) n cap)) 27 (0, 0)) := by
          have h := set_heap hC.out.1 3 (.string (t3 ++ s))
          unfold comC
          dsimp only
          rw [hb, e1, e2, e4, e5, e6]
          exact h
        have hne : ({ c with data := c.data ++ s.data.toList } : Com) ≠ c := fun e => by
          have := congrArg (fun y : Com => y.data.length) e
          simp only [List.length_append] at this
          omega
        have hok : okCom { c with data := c.data ++ s.data.toList } := ⟨o0, o1, o2, by unfold isT isC; rw [List.length_append]; omega, o4, o5, o6, ⟨o7, o7b⟩, o8, o9, o10⟩
        have hlb : 88 + c.book.length + c.name.length + (c.data ++ s.data.toList).length + c.mat.length + c.non.length + c.tok.length + flatN text c.names ≤ 33554432 := by rw [List.length_append]; omega
        have hF := Lib.hid (And.intro hok (And.intro hne (And.intro hlb (And.intro hh (hcon'.out 3 (.string (t3 ++ s)))))))
        have f0 : wc.cell? ⟨D, 3, none⟩ = some (.string t3) := Lib.cell_of_heap hC.out.1 3
        have f1 : wc.frozen? ⟨D, 3, none⟩ = false := Lib.frozen_of_heap hC.out.1 3
        have hzz : t3.size + s.size ≤ 9223372036854775807 := by omega
        clear hb hh hne hok hlb e1 e2 e3 e4 e5 e6 o0 o1 o2 o3 o4 o5 o6 o7 o7b o8 o9 o10 zs z1 z2 z3 z4 z5 z6
        go_wp2
        go_meet
        case rel => exact ⟨_, _, hF⟩
      · have hb : sv (c.mat ++ s.data.toList) = .string (t4 ++ s) := (sv_app t4 s c.mat e4).symm
        have hh : (wc.setCell ⟨D, 4, none⟩ (.string (t4 ++ s))).heap[D]? = some (.cells (comC { c with mat := c.mat ++ s.data.toList } (.slice (some ⟨g, 0, none⟩) n cap)) 27 (0, 0)) := by
          have h := set_heap hC.out.1 4 (.string (t4 ++ s))
          unfold comC
          dsimp only
          rw [hb, e1, e2, e3, e5, e6]
          exact h
        have hne : ({ c with mat := c.mat ++ s.data.toList } : Com) ≠ c := fun e => by
          have := congrArg (fun y : Com => y.mat.length) e
          simp only [List.length_append] at this
          omega
        have hok : okCom { c with mat := c.mat ++ s.data.toList } := ⟨o0, o1, o2, o3, by unfold isT isC; rw [List.length_append]; omega, o5, o6, ⟨o7, o7b⟩, o8, o9, o10⟩
        have hlb : 88 + c.book.length + c.name.length + c.data.length + (c.mat ++ s.data.toList).length + c.non.length + c.tok.length + flatN text c.names ≤ 33554432 := by rw [List.length_append]; omega
        have hF := Lib.hid (And.intro hok (And.intro hne (And.intro hlb (And.intro hh (hcon'.out 4 (.string (t4 ++ s)))))))
        have f0 : wc.cell? ⟨D, 4, none⟩ = some (.string t4) := Lib.cell_of_heap hC.out.1 4
        have f1 : wc.frozen? ⟨D, 4, none⟩ = false := Lib.frozen_of_heap hC.out.1 4
        have hzz : t4.size + s.size ≤ 9223372036854775807 := by omega
        clear hb hh hne hok hlb e1 e2 e3 e4 e5 e6 o0 o1 o2 o3 o4 o5 o6 o7 o7b o8 o9 o10 zs z1 z2 z3 z4 z5 z6
        go_wp2
        go_meet
        case rel => exact ⟨_, _, hF⟩
      · have hb : sv (c.non ++ s.data.toList) = .string (t5 ++ s) := (sv_app t5 s c.non e5).symm
        have hh : (wc.setCell ⟨D, 5, none⟩ (.string (t5 ++ s))).heap[D]? = some (.cells (comC { c with non := c.non ++ s.data.toList } (.slice (some ⟨g, 0, none⟩) n cap)) 27 (0, 0)) := by
          have h := set_heap hC.out.1 5 (.string (t5 ++ s))
          unfold comC
          dsimp only
          rw [hb, e1, e2, e3, e4, e6]
          exact h
        have hne : ({ c with non := c.non ++ s.data.toList } : Com) ≠ c := fun e => by
          have := congrArg (fun y : Com => y.non.length) e
          simp only [List.length_append] at this
          omega
        have hok : okCom { c with non := c.non ++ s.data.toList } := ⟨o0, o1, o2, o3, o4, by unfold isT isC; rw [List.length_append]; omega, o6, ⟨o7, o7b⟩, o8, o9, o10⟩
        have hlb : 88 + c.book.length + c.name.length + c.data.length + c.mat.length + (c.non ++ s.data.toList).length + c.tok.length + flatN text c.names ≤ 33554432 := by rw [List.length_append]; omega
        have hF := Lib.hid (And.intro hok (And.intro hne (And.intro hlb (And.intro hh (hcon'.out 5 (.string (t5 ++ s)))))))
        have f0 : wc.cell? ⟨D, 5, none⟩ = some (.string t5) := Lib.cell_of_heap hC.out.1 5
        have f1 : wc.frozen? ⟨D, 5, none⟩ = false := Lib.frozen_of_heap hC.out.1 5
        have hzz : t5.size + s.size ≤ 9223372036854775807 := by omega
        clear hb hh hne hok hlb e1 e2 e3 e4 e5 e6 o0 o1 o2 o3 o4 o5 o6 o7 o7b o8 o9 o10 zs z1 z2 z3 z4 z5 z6
        go_wp2
        go_meet
        case rel => exact ⟨_, _, hF⟩
      · have hb : sv (c.tok ++ s.data.toList) = .string (t6 ++ s) := (sv_app t6 s c.tok e6).symm
        have hh : (wc.setCell ⟨D, 6, none⟩ (.string (t6 ++ s))).heap[D]? = some (.cells (comC { c with tok := c.tok ++ s.data.toList } (.slice (some ⟨g, 0, none⟩) n cap)) 27 (0, 0)) := by
          have h := set_heap hC.out.1 6 (.string (t6 ++ s))
          unfold comC
          dsimp only
          rw [hb, e1, e2, e3, e4, e5]
          exact h
        have hne : ({ c with tok := c.tok ++ s.data.toList } : Com) ≠ c := fun e => by
          have := congrArg (fun y : Com => y.tok.length) e
          simp only [List.length_append] at this
          omega
        have hok : okCom { c with tok := c.tok ++ s.data.toList } := ⟨o0, o1, o2, o3, o4, o5, by unfold isT isC; rw [List.length_append]; omega, ⟨o7, o7b⟩, o8, o9, o10⟩
        have hlb : 88 + c.book.length + c.name.length + c.data.length + c.mat.length + c.non.length + (c.tok ++ s.data.toList).length + flatN text c.names ≤ 33554432 := by rw [List.length_append]; omega
        have hF := Lib.hid (And.intro hok (And.intro hne (And.intro hlb (And.intro hh (hcon'.out 6 (.string (t6 ++ s)))))))
        have f0 : wc.cell? ⟨D, 6, none⟩ = some (.string t6) := Lib.cell_of_heap hC.out.1 6
        have f1 : wc.frozen? ⟨D, 6, none⟩ = false := Lib.frozen_of_heap hC.out.1 6
        have hzz : t6.size + s.size ≤ 9223372036854775807 := by omega
        clear hb hh hne hok hlb e1 e2 e3 e4 e5 e6 o0 o1 o2 o3 o4 o5 o6 o7 o7b o8 o9 o10 zs z1 z2 z3 z4 z5 z6
        go_wp2
        go_meet
        case rel => exact ⟨_, _, hF⟩
      · have hne : ({ c with names := c.names ++ [s.data.toList] } : Com) ≠ c := fun e => by
          have := congrArg (fun y : Com => y.names.length) e
          simp at this
        have hok : okCom { c with names := c.names ++ [s.data.toList] } := ⟨o0, o1, o2, o3, o4, o5, o6, ok_snoc ⟨o7, o7b⟩ (by rw [hn'.out]; omega) (by omega), o8, o9, o10⟩
        have hlb : 88 + c.book.length + c.name.length + c.data.length + c.mat.length + c.non.length + c.tok.length + flatN text (c.names ++ [s.data.toList]) ≤ 33554432 := by rw [flat_snoc, Cd.text_len]; omega
        have hG := Lib.hid (show ∀ g2 cap2 w', WrR 9 1 encS (D + 1) wc w' (.slice (some ⟨g, 0, none⟩) n cap) (.slice (some ⟨g2, 0, none⟩) (n + 1) cap2) (c.names ++ [s.data.toList]) → w'.cell? ⟨D, 7, none⟩ = some (.slice (some ⟨g, 0, none⟩) n cap) ∧ w'.frozen? ⟨D, 7, none⟩ = false ∧ (w'.setCell ⟨D, 7, none⟩ (.slice (some ⟨g2, 0, none⟩) (n + 1) cap2)).heap[D]? = some (.cells (comC { c with names := c.names ++ [s.data.toList] } (.slice (some ⟨g2, 0, none⟩) (n + 1) cap2)) 27 (0, 0)) ∧ StrsAt (w'.setCell ⟨D, 7, none⟩ (.slice (some ⟨g2, 0, none⟩) (n + 1) cap2)) (.slice (some ⟨g2, 0, none⟩) (n + 1) cap2) (c.names ++ [s.data.toList]) ∧ Below D w2 (w'.setCell ⟨D, 7, none⟩ (.slice (some ⟨g2, 0, none⟩) (n + 1) cap2)) from fun g2 cap2 w' hW => by
          have hgl := World.ownsRow.lt hC.out.2.1 g rfl
          have hk := (hW.kp.block D hDc (by simp [Value.ownBlock]; omega)).trans hC.out.1
          have hO := hW.own
          have hB1 : Below D w2 w' := hW.kp.below hC.out.2.2 (fun q hq => by
            have : q = g := by simpa [Value.ownBlock] using hq
            omega) (by omega)
          refine ⟨Lib.cell_of_heap hk 7, Lib.frozen_of_heap hk 7, ?_, strs_of (ownsRow_heap hO fun q hq => Below.heap_setCell _ ⟨D, 7, none⟩ _ q (by have := (World.ownsRow.lt hO q hq).1; show q ≠ D; omega)) rfl, hB1.setCell (p := ⟨D, 7, none⟩) (Nat.le_refl D) _⟩
          · have h := set_heap hk 7 (.slice (some ⟨g2, 0, none⟩) (n + 1) cap2)
            unfold comC
            dsimp only
            rw [e1, e2, e3, e4, e5, e6]
            exact h)
        have hsv : Value.string s = sv s.data.toList := (sv_data s).symm
        have hOw := Lib.hid (show wc.ownsRow (D + 1) 9 1 (.slice (some ⟨g, 0, none⟩) n cap) c.names.length (c.names.flatMap encS) by rw [hn'.out]; exact hC.out.2.1)
        have hOk := Lib.hid (And.intro hok (And.intro hne hlb))
        have f7 : wc.cell? ⟨D, 7, none⟩ = some (.slice (some ⟨g, 0, none⟩) n cap) := Lib.cell_of_heap hC.out.1 7
        have hl1 : (c.names.length + 1) * 16 ≤ 140737488355328 := by rw [hn'.out]; omega
        have hl2 : c.names.length + 1 ≤ maxLen := by rw [hn'.out]; unfold maxLen; omega
        have hDw : D + 1 ≤ wc.heap.size := by omega
        have hcs : (#[Value.string s] : Array Value) = (encS s.data.toList).toArray := by unfold encS; rw [sv_data]
        have hcs' := Lib.hid hcs
        clear hcs hne hok hlb hsv e1 e2 e3 e4 e5 e6 o0 o1 o2 o3 o4 o5 o6 o7 o7b o8 o9 o10 zs z1 z2 z3 z4 z5 z6
        go_wp2_with (first
          | (at_builtin; refine Cd.append_el (enc := encS) (size := 1) (bytes := 16) (et := 9) (st := 25) (z := .string ⟨#[]⟩) Try.underlying25 infoStr rfl (fun _ => rfl) (fun x u hu => by simp [encS, sv] at hu; rw [hu]; rfl) (by decide) s.data.toList hcs'.out rfl _ _ rfl (D + 1) _ c.names _ rfl rfl rfl hOw.out hl1 hl2 hDw ?_; rw [hn'.out]; intro g2 cap2 w' hw; obtain ⟨y1, y2, y3⟩ := hG.out g2 cap2 w' hw; have hF := Lib.hid y3; clear y3 hw)
          | fail)
        go_meet
        case rel => exact ⟨_, _, Lib.hid ⟨hOk.out.1, hOk.out.2.1, hOk.out.2.2, hF.out⟩⟩
      · obtain ⟨x1, x2⟩ := xor_one_ne c.ses o9
        obtain ⟨q, hq⟩ : ∃ q, bits .xor .i64 c.ses 1 = q := ⟨_, rfl⟩
        rw [hq] at x1 x2
        have hh : (wc.setCell ⟨D, 9, none⟩ (.int .i64 q)).heap[D]? = some (.cells (comC { c with ses := q } (.slice (some ⟨g, 0, none⟩) n cap)) 27 (0, 0)) := by
          have h := set_heap hC.out.1 9 (.int .i64 q)
          unfold comC
          dsimp only
          rw [e1, e2, e3, e4, e5, e6]
          exact h
        have hne : ({ c with ses := q } : Com) ≠ c := fun e => x1 (congrArg Com.ses e)
        have hok : okCom { c with ses := q } := ⟨o0, o1, o2, o3, o4, o5, o6, ⟨o7, o7b⟩, o8, x2, o10⟩
        have hF := Lib.hid (And.intro hok (And.intro hne (And.intro (by show 88 + c.book.length + c.name.length + c.data.length + c.mat.length + c.non.length + c.tok.length + flatN text c.names ≤ 33554432; omega) (And.intro hh (hcon'.out 9 (.int .i64 q))))))
        have f0 : wc.cell? ⟨D, 9, none⟩ = some (.int .i64 c.ses) := Lib.cell_of_heap hC.out.1 9
        have f1 : wc.frozen? ⟨D, 9, none⟩ = false := Lib.frozen_of_heap hC.out.1 9
        clear hh hne hok x1 x2 e1 e2 e3 e4 e5 e6 o0 o1 o2 o3 o4 o5 o6 o7 o7b o8 o9 o10 zs z1 z2 z3 z4 z5 z6
        go_wp2
        go_meet
        case rel => exact ⟨_, _, hF⟩
    case rest =>
      obtain ⟨d, nvd, hQ⟩ := hcut
      obtain ⟨wE, rfl⟩ : ∃ x, x = wc := ⟨_, rfl⟩
      obtain ⟨Ad, nbd, offd, cd, rfl, -, -, -, -⟩ := id hQ.out.2.2.2.2.1
      obtain ⟨nd, hnd⟩ : ∃ x, d.names.length = x := ⟨_, rfl⟩
      have hnd' := Lib.hid hnd
      rw [hnd] at hQ
      have hbc : Below w2.heap.size w2 wE := by rw [hD]; exact hQ.out.2.2.2.2.2
      have hb1c := Lib.hid (hb2'.out.trans (hbc.mono hb2'.out.size))
      have hDlt : D < wE.heap.size := (Array.getElem?_eq_some_iff.1 hQ.out.2.2.2.1).1
      have hS23 : ∀ W, Below wE.heap.size wE W → Below wE.heap.size wE W ∧ W.cell? ⟨B, 0, none⟩ = some (.int .i64 c.op) ∧ W.cell? ⟨B, 1, none⟩ = some (sv c.book) ∧ W.cell? ⟨B, 2, none⟩ = some (sv c.name) ∧ W.cell? ⟨B, 3, none⟩ = some (sv c.data) ∧ W.cell? ⟨B, 4, none⟩ = some (sv c.mat) ∧ W.cell? ⟨B, 5, none⟩ = some (sv c.non) ∧ W.cell? ⟨B, 6, none⟩ = some (sv c.tok) ∧ W.cell? ⟨B, 7, none⟩ = some (.slice A n cp) ∧ W.cell? ⟨B, 8, none⟩ = some (.int .i64 c.pos) ∧ W.cell? ⟨B, 9, none⟩ = some (.int .i64 c.ses) ∧ W.cell? ⟨B, 10, none⟩ = some (.int .i64 c.seq) ∧ W.cell? ⟨D, 0, none⟩ = some (.int .i64 d.op) ∧ W.cell? ⟨D, 1, none⟩ = some (sv d.book) ∧ W.cell? ⟨D, 2, none⟩ = some (sv d.name) ∧ W.cell? ⟨D, 3, none⟩ = some (sv d.data) ∧ W.cell? ⟨D, 4, none⟩ = some (sv d.mat) ∧ W.cell? ⟨D, 5, none⟩ = some (sv d.non) ∧ W.cell? ⟨D, 6, none⟩ = some (sv d.tok) ∧ W.cell? ⟨D, 7, none⟩ = some (.slice Ad nd cd) ∧ W.cell? ⟨D, 8, none⟩ = some (.int .i64 d.pos) ∧ W.cell? ⟨D, 9, none⟩ = some (.int .i64 d.ses) ∧ W.cell? ⟨D, 10, none⟩ = some (.int .i64 d.seq) := fun W h => by
        have h1 := (hst'.out W (hb1c.out.trans (h.mono hb1c.out.size))).1
        have h2 : W.heap[D]? = some (.cells (comC d (.slice Ad nd cd)) 27 (0, 0)) := (h.block D hDlt).trans hQ.out.2.2.2.1
        exact ⟨h, h1 0, h1 1, h1 2, h1 3, h1 4, h1 5, h1 6, h1 7, h1 8, h1 9, h1 10, Lib.cell_of_heap h2 0, Lib.cell_of_heap h2 1, Lib.cell_of_heap h2 2, Lib.cell_of_heap h2 3, Lib.cell_of_heap h2 4, Lib.cell_of_heap h2 5, Lib.cell_of_heap h2 6, Lib.cell_of_heap h2 7, Lib.cell_of_heap h2 8, Lib.cell_of_heap h2 9, Lib.cell_of_heap h2 10⟩
      have c1 : ∀ W, Below wE.heap.size wE W → Calls Try.prog 21 #[.agg #[.int .i64 c.op, sv c.book, sv c.name, sv c.data, sv c.mat, sv c.non, sv c.tok, .slice A n cp, .int .i64 c.pos, .int .i64 c.ses, .int .i64 c.seq]] W fun e w' => ∃ v', e = .returned v' ∧ BOwn W.heap.size v' (comB c) w' ∧ Below W.heap.size W w' := fun W h => putCom_any W c (.slice A n cp) (hst'.out W (hb1c.out.trans (h.mono hb1c.out.size))).2.1 (by omega)
      have c2 : ∀ W, Below wE.heap.size wE W → Calls Try.prog 21 #[.agg #[.int .i64 d.op, sv d.book, sv d.name, sv d.data, sv d.mat, sv d.non, sv d.tok, .slice Ad nd cd, .int .i64 d.pos, .int .i64 d.ses, .int .i64 d.seq]] W fun e w' => ∃ v', e = .returned v' ∧ BOwn W.heap.size v' (comB d) w' ∧ Below W.heap.size W w' := fun W h => putCom_any W d (.slice Ad nd cd) (hQ.out.2.2.2.2.1.kept h) (by have := hQ.out.2.2.1; omega)
      have hS23' := Lib.hid hS23
      have c1' := Lib.hid c1
      have c2' := Lib.hid c2
      have hbc' := Lib.hid hbc
      clear hnd hbc hS23 c1 c2
      go_upto_region 23 with fail
      go_cut [8, 9] from 85 to 88 (fun s8 s9 wx => ∃ g1 n1 k1 g2 n2 k2, s8 = .slice (some ⟨g1, 0, none⟩) n1 k1 ∧ s9 = .slice (some ⟨g2, 0, none⟩) n2 k2 ∧ Hid (BOwn wE.heap.size (.slice (some ⟨g1, 0, none⟩) n1 k1) (comB c) wx ∧ BOwn wE.heap.size (.slice (some ⟨g2, 0, none⟩) n2 k2) (comB d) wx ∧ Below wE.heap.size wE wx))
      case first =>
        rename_i J K' hJ2 hK'
        refine wp_region_held_drew (S := fun W => Below wE.heap.size wE W ∧ W.cell? ⟨B, 0, none⟩ = some (.int .i64 c.op) ∧ W.cell? ⟨B, 1, none⟩ = some (sv c.book) ∧ W.cell? ⟨B, 2, none⟩ = some (sv c.name) ∧ W.cell? ⟨B, 3, none⟩ = some (sv c.data) ∧ W.cell? ⟨B, 4, none⟩ = some (sv c.mat) ∧ W.cell? ⟨B, 5, none⟩ = some (sv c.non) ∧ W.cell? ⟨B, 6, none⟩ = some (sv c.tok) ∧ W.cell? ⟨B, 7, none⟩ = some (.slice A n cp) ∧ W.cell? ⟨B, 8, none⟩ = some (.int .i64 c.pos) ∧ W.cell? ⟨B, 9, none⟩ = some (.int .i64 c.ses) ∧ W.cell? ⟨B, 10, none⟩ = some (.int .i64 c.seq) ∧ W.cell? ⟨D, 0, none⟩ = some (.int .i64 d.op) ∧ W.cell? ⟨D, 1, none⟩ = some (sv d.book) ∧ W.cell? ⟨D, 2, none⟩ = some (sv d.name) ∧ W.cell? ⟨D, 3, none⟩ = some (sv d.data) ∧ W.cell? ⟨D, 4, none⟩ = some (sv d.mat) ∧ W.cell? ⟨D, 5, none⟩ = some (sv d.non) ∧ W.cell? ⟨D, 6, none⟩ = some (sv d.tok) ∧ W.cell? ⟨D, 7, none⟩ = some (.slice Ad nd cd) ∧ W.cell? ⟨D, 8, none⟩ = some (.int .i64 d.pos) ∧ W.cell? ⟨D, 9, none⟩ = some (.int .i64 d.ses) ∧ W.cell? ⟨D, 10, none⟩ = some (.int .i64 d.seq)) (by kernel_rfl) (hS23'.out _ (Below.drew (Below.refl _ _))) (fun hHeld => ?_)
        refine wpAnyH_take (i := 0) (oi := ?o23_0) (v := ?v23_0) ?hi23_0 (by kernel_rfl) (by kernel_rfl) (by kernel_rfl) ?hq23_0 (Or.inl ⟨?hw23_0, ?hy23_0⟩) (by assumption) ?_
        case hi23_0 => (simp only [List.getElem?_toArray, List.getElem?_cons_zero]; rfl)
        case hq23_0 => exact fun _ _ _ h => h
        case hw23_0 => rfl
        case hy23_0 => (intro w hSw; (try dsimp only at hSw); go_simp; (try with_reducible rfl))
        try simp only [Act.put, List.setIfInBounds_toArray, List.set_cons_zero, List.set_cons_succ]
        refine wpAnyH_take (i := 2) (oi := ?o23_2) (v := ?v23_2) ?hi23_2 (by kernel_rfl) (by kernel_rfl) (by kernel_rfl) ?hq23_2 (Or.inl ⟨?hw23_2, ?hy23_2⟩) (by assumption) ?_
        case hi23_2 => (simp only [List.getElem?_toArray, List.getElem?_cons_succ, List.getElem?_cons_zero]; rfl)
        case hq23_2 => exact fun _ _ _ h => h
        case hw23_2 => rfl
        case hy23_2 => (intro w hSw; (try dsimp only at hSw); go_simp; (try with_reducible rfl))
        try simp only [Act.put, List.setIfInBounds_toArray, List.set_cons_zero, List.set_cons_succ]
        refine wpAnyH_ready (rs := [1]) (by kernel_rfl) (by simp) ?_
        refine AllReadyH.cons (o := _) rfl (fun Kc hKc => ?_) AllReadyH.nil
        go_simp
        refine (c1'.out _ (Below.drew (Below.refl _ _))).mono ?_
        rintro e wA ⟨v1, rfl, hO1, hbA⟩
        have hbA' : Below wE.heap.size wE wA := (Below.drew (Below.refl _ _)).trans hbA
        refine hKc _ _ (hS23'.out _ hbA') (fun _ => ?_)
        clear hKc Kc hHeld
        have hHeld := hS23'.out _ hbA'
        try simp only [Act.put, List.setIfInBounds_toArray, List.set_cons_zero, List.set_cons_succ]
        refine wpAnyH_ready (rs := [3]) (by kernel_rfl) (by simp) ?_
        refine AllReadyH.cons (o := _) rfl (fun Kc hKc => ?_) AllReadyH.nil
        go_simp
        refine (c2'.out _ hbA').mono ?_
        rintro e wB2 ⟨v2, rfl, hO2, hbB⟩
        have hbB' : Below wE.heap.size wE wB2 := hbA'.trans (hbB.mono hbA'.size)
        refine hKc _ _ (hS23'.out _ hbB') (fun _ => ?_)
        clear hKc Kc hHeld
        have hHeld := hS23'.out _ hbB'
        try simp only [Act.put, List.setIfInBounds_toArray, List.set_cons_zero, List.set_cons_succ]
        refine wpAnyH_take (i := 4) (oi := ?o23_4) (v := ?v23_4) ?hi23_4 (by kernel_rfl) (by kernel_rfl) (by kernel_rfl) ?hq23_4 (Or.inl ⟨?hw23_4, ?hy23_4⟩) (by assumption) ?_
        case hi23_4 => (simp only [List.getElem?_toArray, List.getElem?_cons_succ, List.getElem?_cons_zero]; rfl)
        case hq23_4 => exact fun _ _ _ h => h
        case hw23_4 => rfl
        case hy23_4 => (intro w hSw; (try dsimp only at hSw); go_simp; (try with_reducible rfl))
        try simp only [Act.put, List.setIfInBounds_toArray, List.set_cons_zero, List.set_cons_succ]
        refine wpAnyH_take (i := 5) (oi := ?o23_5) (v := ?v23_5) ?hi23_5 (by kernel_rfl) (by kernel_rfl) (by kernel_rfl) ?hq23_5 (Or.inl ⟨?hw23_5, ?hy23_5⟩) (by assumption) ?_
        case hi23_5 => (simp only [List.getElem?_toArray, List.getElem?_cons_succ, List.getElem?_cons_zero]; rfl)
        case hq23_5 => exact fun _ _ _ h => h
        case hw23_5 => rfl
        case hy23_5 => (intro w hSw; (try dsimp only at hSw); go_simp; (try with_reducible rfl))
        try simp only [Act.put, List.setIfInBounds_toArray, List.set_cons_zero, List.set_cons_succ]
        refine wpAnyH_done (by kernel_rfl) ?_ _
        obtain ⟨g1, k1, hv1, -, -⟩ := own_some hO1 (by rw [comB_len]; omega)
        obtain ⟨g2, k2, hv2, -, -⟩ := own_some hO2 (by rw [comB_len]; omega)
        subst hv1 hv2
        refine hK' _ _ (Met.intro (hJ2 _ _ ?_))
        repeat apply Exists.intro
        refine ⟨?rel2, rfl⟩
        exact ⟨_, _, _, _, _, _, rfl, rfl, Lib.hid ⟨own_low (hO1.kept hbB) (Nat.le_refl _), own_low hO2 hbA'.size, hbB'⟩⟩
      case rest =>
        obtain ⟨g1, n1, k1, g2, n2, k2, rfl, rfl, hR⟩ := hcut
        obtain ⟨wF, rfl⟩ : ∃ x, x = wc := ⟨_, rfl⟩
        have hok := Lib.hid hQ.out.1
        have hne : comB c ≠ comB d := fun e => hQ.out.2.1 (cod_com.inj hQ.out.1 ho'.out e.symm)
        have hld : (comB d).length ≤ 33554432 := by rw [comB_len]; exact hQ.out.2.2.1
        have cG := getCom_any wF (.slice (some ⟨g2, 0, none⟩) n2 k2) (comB d) hR.out.2.1.bin (by omega)
        rw [got_com hok.out] at cG
        dsimp only at cG
        unfold comV comC at cG
        obtain ⟨y1, ey1⟩ : ∃ t : ByteArray, sv d.book = .string t := ⟨_, rfl⟩
        obtain ⟨y2, ey2⟩ : ∃ t : ByteArray, sv d.name = .string t := ⟨_, rfl⟩
        obtain ⟨y3, ey3⟩ : ∃ t : ByteArray, sv d.data = .string t := ⟨_, rfl⟩
        obtain ⟨y4, ey4⟩ : ∃ t : ByteArray, sv d.mat = .string t := ⟨_, rfl⟩
        obtain ⟨y5, ey5⟩ : ∃ t : ByteArray, sv d.non = .string t := ⟨_, rfl⟩
        obtain ⟨y6, ey6⟩ : ∃ t : ByteArray, sv d.tok = .string t := ⟨_, rfl⟩
        rw [ey1, ey2, ey3, ey4, ey5, ey6] at cG
        have hbF := Lib.hid ((hst'.out wE hb1c.out).2.2.trans (hR.out.2.2.mono (hst'.out wE hb1c.out).2.2.size))
        have hL2 := Lib.hid hQ.out.2.2.1
        clear hS23' c1' c2' hQ hDlt
        go_wp2_with fail
        go_at_call 10
        refine cG.mono ?_
        rintro e wH ⟨nvx, rfl, hOx, hbH⟩
        obtain ⟨Ax, cx, rfl⟩ := own_form hOx
        rw [hnd'.out] at hOx
        have hbH' := Lib.hid (hbF.out.trans (hbH.mono hbF.out.size))
        have hRa := Lib.hid (hR.out.1.kept hbH)
        have hRb := Lib.hid (hR.out.2.1.kept hbH)
        have hOx' := Lib.hid hOx
        clear cG hOx hbH hR
        rw [hnd'.out]
        go_upto_region 25 with fail
        obtain ⟨wG, hwG⟩ : ∃ x, wH.alloc (.cells #[.int .i64 d.op, .string y1, .string y2, .string y3, .string y4, .string y5, .string y6, .slice Ax nd cx, .int .i64 d.pos, .int .i64 d.ses, .int .i64 d.seq] 27) = x := ⟨_, rfl⟩
        have hb : Below wH.heap.size wH wG := by rw [← hwG]; exact below_one _ _
        have hbx2 : wG.heap[wH.heap.size]? = some (.cells #[.int .i64 d.op, .string y1, .string y2, .string y3, .string y4, .string y5, .string y6, .slice Ax nd cx, .int .i64 d.pos, .int .i64 d.ses, .int .i64 d.seq] 27 (0, 0)) := by rw [← hwG]; exact heap_alloc_new wH _
        have hltx := (Array.getElem?_eq_some_iff.1 hbx2).1
        rw [hwG]
        obtain ⟨X, hX⟩ : ∃ x, wH.heap.size = x := ⟨_, rfl⟩
        rw [hX] at hbx2 hltx ⊢
        have hbG := Lib.hid (hbH'.out.trans (hb.mono hbH'.out.size))
        obtain ⟨sa, hsa⟩ : ∃ x : ByteArray, (⟨(comB c).toArray⟩ : ByteArray) = x := ⟨_, rfl⟩
        obtain ⟨sb, hsb⟩ : ∃ x : ByteArray, (⟨(comB d).toArray⟩ : ByteArray) = x := ⟨_, rfl⟩
        have ka : ∀ W, Below wG.heap.size wG W → (convert 22 9 (.slice (some ⟨g1, 0, none⟩) n1 k1)).run Try.prog W = .ok (.string sa) W := fun W h => by rw [← hsa]; exact conv_own ((hRa.out.kept hb).kept h)
        have kb : ∀ W, Below wG.heap.size wG W → (convert 22 9 (.slice (some ⟨g2, 0, none⟩) n2 k2)).run Try.prog W = .ok (.string sb) W := fun W h => by rw [← hsb]; exact conv_own ((hRb.out.kept hb).kept h)
        have qn : (sa.toList != sb.toList) = true := by
          rw [Lib.toList_data, Lib.toList_data, ← hsa, ← hsb]
          simpa using hne
        have qn2 : (sa.toList == sb.toList) = false := by
          rw [Lib.toList_data, Lib.toList_data, ← hsa, ← hsb]
          simpa using hne
        have qe : (sb.toList == sb.toList) = true := by simp
        have hSx := Lib.hid (strs_of (own_low hOx'.out (Nat.le_refl _)) hnd'.out)
        have c3 := Lib.hid (fun (W : World) (h : Below wG.heap.size wG W) => show Calls Try.prog 21 #[.agg #[.int .i64 d.op, .string y1, .string y2, .string y3, .string y4, .string y5, .string y6, .slice Ax nd cx, .int .i64 d.pos, .int .i64 d.ses, .int .i64 d.seq]] W fun e w' => ∃ u, e = .returned u ∧ (∀ W', Below w'.heap.size w' W' → (convert 22 9 u).run Try.prog W' = .ok (.string sb) W') ∧ Below W.heap.size W w' from by
          have hq := putCom_any W d (.slice Ax nd cx) ((hSx.out.kept hb).kept h) (by have := hL2.out; omega)
          unfold comV comC at hq
          rw [ey1, ey2, ey3, ey4, ey5, ey6] at hq
          refine hq.mono ?_
          rintro e w' ⟨u, rfl, hu, hb2⟩
          exact ⟨u, rfl, fun W' h' => by rw [← hsb]; exact conv_own (hu.kept h'), hb2⟩)
        have hS25 := Lib.hid (fun (W : World) (h : Below wG.heap.size wG W) => show Below wG.heap.size wG W ∧ W.cell? ⟨X, 0, none⟩ = some (.int .i64 d.op) ∧ W.cell? ⟨X, 1, none⟩ = some (.string y1) ∧ W.cell? ⟨X, 2, none⟩ = some (.string y2) ∧ W.cell? ⟨X, 3, none⟩ = some (.string y3) ∧ W.cell? ⟨X, 4, none⟩ = some (.string y4) ∧ W.cell? ⟨X, 5, none⟩ = some (.string y5) ∧ W.cell? ⟨X, 6, none⟩ = some (.string y6) ∧ W.cell? ⟨X, 7, none⟩ = some (.slice Ax nd cx) ∧ W.cell? ⟨X, 8, none⟩ = some (.int .i64 d.pos) ∧ W.cell? ⟨X, 9, none⟩ = some (.int .i64 d.ses) ∧ W.cell? ⟨X, 10, none⟩ = some (.int .i64 d.seq) from by
          have h2 := (h.block X hltx).trans hbx2
          exact ⟨h, Lib.cell_of_heap h2 0, Lib.cell_of_heap h2 1, Lib.cell_of_heap h2 2, Lib.cell_of_heap h2 3, Lib.cell_of_heap h2 4, Lib.cell_of_heap h2 5, Lib.cell_of_heap h2 6, Lib.cell_of_heap h2 7, Lib.cell_of_heap h2 8, Lib.cell_of_heap h2 9, Lib.cell_of_heap h2 10⟩)
        clear hb hbx2 hwG hne ey1 ey2 ey3 ey4 ey5 ey6
        refine wp_region_held_drew (S := fun W => Below wG.heap.size wG W ∧ W.cell? ⟨X, 0, none⟩ = some (.int .i64 d.op) ∧ W.cell? ⟨X, 1, none⟩ = some (.string y1) ∧ W.cell? ⟨X, 2, none⟩ = some (.string y2) ∧ W.cell? ⟨X, 3, none⟩ = some (.string y3) ∧ W.cell? ⟨X, 4, none⟩ = some (.string y4) ∧ W.cell? ⟨X, 5, none⟩ = some (.string y5) ∧ W.cell? ⟨X, 6, none⟩ = some (.string y6) ∧ W.cell? ⟨X, 7, none⟩ = some (.slice Ax nd cx) ∧ W.cell? ⟨X, 8, none⟩ = some (.int .i64 d.pos) ∧ W.cell? ⟨X, 9, none⟩ = some (.int .i64 d.ses) ∧ W.cell? ⟨X, 10, none⟩ = some (.int .i64 d.seq)) (by kernel_rfl) (hS25.out _ (Below.drew (Below.refl _ _))) (fun hHeld => ?_)
        refine wpAnyH_take (i := 0) (oi := ?o25_0) (v := ?v25_0) ?hi25_0 (by kernel_rfl) (by kernel_rfl) (by kernel_rfl) ?hq25_0 (Or.inl ⟨?hw25_0, ?hy25_0⟩) (by assumption) ?_
        case hi25_0 => (simp only [List.getElem?_toArray, List.getElem?_cons_zero]; rfl)
        case hq25_0 => exact fun _ _ _ h => h
        case hw25_0 => rfl
        case hy25_0 => (intro w hSw; (try dsimp only at hSw); go_simp; (try with_reducible rfl))
        try simp only [Act.put, List.setIfInBounds_toArray, List.set_cons_zero, List.set_cons_succ]
        refine wpAnyH_take (i := 1) (oi := ?o25_1) (v := ?v25_1) ?hi25_1 (by kernel_rfl) (by kernel_rfl) (by kernel_rfl) ?hq25_1 (Or.inl ⟨?hw25_1, ?hy25_1⟩) (by assumption) ?_
        case hi25_1 => (simp only [List.getElem?_toArray, List.getElem?_cons_succ, List.getElem?_cons_zero]; rfl)
        case hq25_1 => exact fun _ _ _ h => h
        case hw25_1 => rfl
        case hy25_1 => (intro w hSw; (try dsimp only at hSw); go_simp; (try with_reducible rfl))
        try simp only [Act.put, List.setIfInBounds_toArray, List.set_cons_zero, List.set_cons_succ]
        refine wpAnyH_take (i := 2) (oi := ?o25_2) (v := ?v25_2) ?hi25_2 (by kernel_rfl) (by kernel_rfl) (by kernel_rfl) ?hq25_2 (Or.inl ⟨?hw25_2, ?hy25_2⟩) (by assumption) ?_
        case hi25_2 => (simp only [List.getElem?_toArray, List.getElem?_cons_succ, List.getElem?_cons_zero]; rfl)
        case hq25_2 => exact fun _ _ _ h => h
        case hw25_2 => rfl
        case hy25_2 => (intro w hSw; (try dsimp only at hSw); go_simp; (try with_reducible rfl))
        try simp only [Act.put, List.setIfInBounds_toArray, List.set_cons_zero, List.set_cons_succ]
        refine wpAnyH_take (i := 3) (oi := ?o25_3) (v := ?v25_3) ?hi25_3 (by kernel_rfl) (by kernel_rfl) (by kernel_rfl) ?hq25_3 (Or.inl ⟨?hw25_3, ?hy25_3⟩) (by assumption) ?_
        case hi25_3 => (simp only [List.getElem?_toArray, List.getElem?_cons_succ, List.getElem?_cons_zero]; rfl)
        case hq25_3 => exact fun _ _ _ h => h
        case hw25_3 => rfl
        case hy25_3 => (intro w hSw; (try dsimp only at hSw); go_simp; (try with_reducible rfl))
        try simp only [Act.put, List.setIfInBounds_toArray, List.set_cons_zero, List.set_cons_succ]
        refine wpAnyH_take (i := 4) (oi := ?o25_4) (v := ?v25_4) ?hi25_4 (by kernel_rfl) (by kernel_rfl) (by kernel_rfl) ?hq25_4 (Or.inl ⟨?hw25_4, ?hy25_4⟩) (by assumption) ?_
        case hi25_4 => (simp only [List.getElem?_toArray, List.getElem?_cons_succ, List.getElem?_cons_zero]; rfl)
        case hq25_4 => exact fun _ _ _ h => h
        case hw25_4 => rfl
        case hy25_4 => (intro w hSw; (try dsimp only at hSw); go_simp; (try with_reducible rfl))
        try simp only [Act.put, List.setIfInBounds_toArray, List.set_cons_zero, List.set_cons_succ]
        refine wpAnyH_take (i := 5) (oi := ?o25_5) (v := ?v25_5) ?hi25_5 (by kernel_rfl) (by kernel_rfl) (by kernel_rfl) ?hq25_5 (Or.inl ⟨?hw25_5, ?hy25_5⟩) (by assumption) ?_
        case hi25_5 => (simp only [List.getElem?_toArray, List.getElem?_cons_succ, List.getElem?_cons_zero]; rfl)
        case hq25_5 => exact fun _ _ _ h => h
        case hw25_5 => rfl
        case hy25_5 => (intro w hSw; (try dsimp only at hSw); go_simp; (try with_reducible rfl))
        try simp only [Act.put, List.setIfInBounds_toArray, List.set_cons_zero, List.set_cons_succ]
        refine wpAnyH_take (i := 6) (oi := ?o25_6) (v := ?v25_6) ?hi25_6 (by kernel_rfl) (by kernel_rfl) (by kernel_rfl) ?hq25_6 (Or.inl ⟨?hw25_6, ?hy25_6⟩) (by assumption) ?_
        case hi25_6 => (simp only [List.getElem?_toArray, List.getElem?_cons_succ, List.getElem?_cons_zero]; rfl)
        case hq25_6 => exact fun _ _ _ h => h
        case hw25_6 => rfl
        case hy25_6 => (intro w hSw; (try dsimp only at hSw); go_simp; (try with_reducible rfl))
        try simp only [Act.put, List.setIfInBounds_toArray, List.set_cons_zero, List.set_cons_succ]
        refine wpAnyH_take (i := 7) (oi := ?o25_7) (v := ?v25_7) ?hi25_7 (by kernel_rfl) (by kernel_rfl) (by kernel_rfl) ?hq25_7 (Or.inl ⟨?hw25_7, ?hy25_7⟩) (by assumption) ?_
        case hi25_7 => (simp only [List.getElem?_toArray, List.getElem?_cons_succ, List.getElem?_cons_zero]; rfl)
        case hq25_7 => exact fun _ _ _ h => h
        case hw25_7 => rfl
        case hy25_7 => (intro w hSw; (try dsimp only at hSw); go_simp; (try with_reducible rfl))
        try simp only [Act.put, List.setIfInBounds_toArray, List.set_cons_zero, List.set_cons_succ]
        refine wpAnyH_take (i := 8) (oi := ?o25_8) (v := ?v25_8) ?hi25_8 (by kernel_rfl) (by kernel_rfl) (by kernel_rfl) ?hq25_8 (Or.inl ⟨?hw25_8, ?hy25_8⟩) (by assumption) ?_
        case hi25_8 => (simp only [List.getElem?_toArray, List.getElem?_cons_succ, List.getElem?_cons_zero]; rfl)
        case hq25_8 => exact fun _ _ _ h => h
        case hw25_8 => rfl
        case hy25_8 => (intro w hSw; (try dsimp only at hSw); go_simp; (try with_reducible rfl))
        try simp only [Act.put, List.setIfInBounds_toArray, List.set_cons_zero, List.set_cons_succ]
        refine wpAnyH_take (i := 9) (oi := ?o25_9) (v := ?v25_9) ?hi25_9 (by kernel_rfl) (by kernel_rfl) (by kernel_rfl) ?hq25_9 (Or.inl ⟨?hw25_9, ?hy25_9⟩) (by assumption) ?_
        case hi25_9 => (simp only [List.getElem?_toArray, List.getElem?_cons_succ, List.getElem?_cons_zero]; rfl)
        case hq25_9 => exact fun _ _ _ h => h
        case hw25_9 => rfl
        case hy25_9 => (intro w hSw; (try dsimp only at hSw); go_simp; (try with_reducible rfl))
        try simp only [Act.put, List.setIfInBounds_toArray, List.set_cons_zero, List.set_cons_succ]
        refine wpAnyH_take (i := 10) (oi := ?o25_10) (v := ?v25_10) ?hi25_10 (by kernel_rfl) (by kernel_rfl) (by kernel_rfl) ?hq25_10 (Or.inl ⟨?hw25_10, ?hy25_10⟩) (by assumption) ?_
        case hi25_10 => (simp only [List.getElem?_toArray, List.getElem?_cons_succ, List.getElem?_cons_zero]; rfl)
        case hq25_10 => exact fun _ _ _ h => h
        case hw25_10 => rfl
        case hy25_10 => (intro w hSw; (try dsimp only at hSw); go_simp; (try with_reducible rfl))
        try simp only [Act.put, List.setIfInBounds_toArray, List.set_cons_zero, List.set_cons_succ]
        refine wpAnyH_take (i := 13) (oi := ?o25_13) (v := ?v25_13) ?hi25_13 (by kernel_rfl) (by kernel_rfl) (by kernel_rfl) ?hq25_13 (Or.inl ⟨?hw25_13, ?hy25_13⟩) (by assumption) ?_
        case hi25_13 => (simp only [List.getElem?_toArray, List.getElem?_cons_succ, List.getElem?_cons_zero]; rfl)
        case hq25_13 => exact fun _ _ _ h => h
        case hw25_13 => rfl
        case hy25_13 => (intro w hSw; (try dsimp only at hSw); go_simp; (try with_reducible rfl))
        try simp only [Act.put, List.setIfInBounds_toArray, List.set_cons_zero, List.set_cons_succ]
        refine wpAnyH_take (i := 14) (oi := ?o25_14) (v := ?v25_14) ?hi25_14 (by kernel_rfl) (by kernel_rfl) (by kernel_rfl) ?hq25_14 (Or.inl ⟨?hw25_14, ?hy25_14⟩) (by assumption) ?_
        case hi25_14 => (simp only [List.getElem?_toArray, List.getElem?_cons_succ, List.getElem?_cons_zero]; rfl)
        case hq25_14 => exact fun _ _ _ h => h
        case hw25_14 => rfl
        case hy25_14 => (intro w hSw; (try dsimp only at hSw); go_simp; (try with_reducible rfl))
        try simp only [Act.put, List.setIfInBounds_toArray, List.set_cons_zero, List.set_cons_succ]
        refine wpAnyH_ready (rs := [11]) (by kernel_rfl) (by simp) ?_
        refine AllReadyH.cons (o := _) rfl (fun Kc hKc => ?_) AllReadyH.nil
        go_simp
        refine (c3.out _ (Below.drew (Below.refl _ _))).mono ?_
        rintro e wI ⟨u1, rfl, ku, hbI⟩
        have hbI' : Below wG.heap.size wG wI := (Below.drew (Below.refl _ _)).trans hbI
        refine hKc _ _ (hS25.out _ hbI') (fun _ => ?_)
        clear hKc Kc hHeld ka kb
        try simp only [Act.put, List.setIfInBounds_toArray, List.set_cons_zero, List.set_cons_succ]
        refine Rh.wpAnyH_mono (S' := fun W => Below wI.heap.size wI W) (fun W h => hS25.out W (hbI'.trans (h.mono hbI'.size))) _ _ _ _ ?_
        have hHeld : Below wI.heap.size wI wI := Below.refl _ _
        refine wpAnyH_take (i := 12) (oi := ?o25_12) (v := ?v25_12) ?hi25_12 (by kernel_rfl) (by kernel_rfl) (by kernel_rfl) ?hq25_12 (Or.inl ⟨?hw25_12, ?hy25_12⟩) (by assumption) ?_
        case hi25_12 => (simp only [List.getElem?_toArray, List.getElem?_cons_succ, List.getElem?_cons_zero]; rfl)
        case hq25_12 => exact fun _ _ _ h => h
        case hw25_12 => rfl
        case hy25_12 => (intro w hSw; (try dsimp only at hSw); go_simp; (try with_reducible rfl))
        try simp only [Act.put, List.setIfInBounds_toArray, List.set_cons_zero, List.set_cons_succ]
        refine wpAnyH_take (i := 15) (oi := ?o25_15) (v := ?v25_15) ?hi25_15 (by kernel_rfl) (by kernel_rfl) (by kernel_rfl) ?hq25_15 (Or.inl ⟨?hw25_15, ?hy25_15⟩) (by assumption) ?_
        case hi25_15 => (simp only [List.getElem?_toArray, List.getElem?_cons_succ, List.getElem?_cons_zero]; rfl)
        case hq25_15 => exact fun _ _ _ h => h
        case hw25_15 => rfl
        case hy25_15 => (intro w hSw; (try dsimp only at hSw); go_simp; (try with_reducible rfl))
        try simp only [Act.put, List.setIfInBounds_toArray, List.set_cons_zero, List.set_cons_succ]
        refine wpAnyH_take (i := 16) (oi := ?o25_16) (v := ?v25_16) ?hi25_16 (by kernel_rfl) (by kernel_rfl) (by kernel_rfl) ?hq25_16 (Or.inl ⟨?hw25_16, ?hy25_16⟩) (by assumption) ?_
        case hi25_16 => (simp only [List.getElem?_toArray, List.getElem?_cons_succ, List.getElem?_cons_zero]; rfl)
        case hq25_16 => exact fun _ _ _ h => h
        case hw25_16 => rfl
        case hy25_16 => (intro w hSw; (try dsimp only at hSw); go_simp; (try with_reducible rfl))
        try simp only [Act.put, List.setIfInBounds_toArray, List.set_cons_zero, List.set_cons_succ]
        refine wpAnyH_take (i := 17) (oi := ?o25_17) (v := ?v25_17) ?hi25_17 (by kernel_rfl) (by kernel_rfl) (by kernel_rfl) ?hq25_17 (Or.inl ⟨?hw25_17, ?hy25_17⟩) (by assumption) ?_
        case hi25_17 => (simp only [List.getElem?_toArray, List.getElem?_cons_succ, List.getElem?_cons_zero]; rfl)
        case hq25_17 => exact fun _ _ _ h => h
        case hw25_17 => rfl
        case hy25_17 => (intro w hSw; (try dsimp only at hSw); go_simp; (try with_reducible rfl))
        try simp only [Act.put, List.setIfInBounds_toArray, List.set_cons_zero, List.set_cons_succ]
        refine wpAnyH_done (by kernel_rfl) ?_ _
        have hF := Lib.hid (hbG.out.trans (hbI'.mono hbG.out.size))
        clear hHeld ku hbI hbI' c3 hS25
        go_wp2
        go_ret
        exact ⟨rfl, hF.out⟩
end Go.Proofs.Ytpngbfmbjldieaa.Ly
