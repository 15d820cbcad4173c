import Derived.Test.YtjeagjleolmibaaGreatDoorMg14
import Derived.Test.YtjeagjleolmibaaGreatDoorMg16
import Derived.Defers
import Derived.Recover
import Derived.Test.YtjeagjleolmibaaGreatDoorMg10
import Derived.Test.YtjeagjleolmibaaGreatDoorMg15

/-
  WALKS OF THE PROGRAM's READER OF LAYER xml: what gives up (recover), Parse.
-/
set_option linter.unusedVariables false
namespace Go.Proofs.YtjeagjleolmibaaGreatDoor.Xm
open Go.Lib Go.RowKit

theorem assert_fault (v : Value) (xT : TypeId) (w : World) : (Instr.typeAssert (.iface 69 v) xT 69 true).run Tryz.prog w = .ok (.tuple #[v, .bool true]) w := by
  simp [Instr.typeAssert, run_underlying Tryz.underlying69, go_sem]
set_option maxHeartbeats 2000000 in
set_option maxRecDepth 100000 in
theorem catch_gone (p : Addr) (x : Int) (w : World) (hc : w.cell? p = some (.int .i64 x)) (hz : w.frozen? p = false) :
    CallsD Tryz.prog 40 #[.pointer (some p)] (.panicking [{ v := .iface 69 (.int .i64 70), recovered := false }]) w fun e u' w' =>
      e = .returned (.tuple #[]) ∧ u' = .panicking [{ v := .iface 69 (.int .i64 70), recovered := true }] ∧ w' = w.setCell p (.int .i64 70) := by
  have hA := assert_fault (.int .i64 70)
  refine callsD_of_wpS Tryz.func40 rfl fun c₀ cs hu => ?_
  simp only [Tryz.ntmps40, List.size_toArray, List.length_cons, List.length_nil, Nat.reduceAdd, Nat.reduceSub, Array.replicate_succ, Array.replicate_zero, List.push_toArray, List.append_toArray, List.nil_append, List.cons_append]
  apply wpS_seq
  apply wpS_region
  simp [wpOpsS, go_sem, recoverD, hu, Exit.thenS]
  refine wpS_of_wp ?_
  clear hu
  generalize hQ : (fun (e : Exit) (a' : Act) (w' : World) => bodyPostS Tryz.prog _ c₀ cs _ e a' _ w') = Q
  go_wp2
  rw [← hQ]
  cases c₀
  simp [bodyPostS, results, Tryz.results40]

set_option maxHeartbeats 2000000 in
set_option maxRecDepth 100000 in
theorem catch_idle (p : Addr) (w : World) :
    CallsD Tryz.prog 40 #[.pointer (some p)] .returning w fun e u' w' => e = .returned (.tuple #[]) ∧ u' = .returning ∧ w' = w := by
  refine callsD_of_wpS Tryz.func40 rfl fun c₀ cs hu => ?_
  simp only [Tryz.ntmps40, List.size_toArray, List.length_cons, List.length_nil, Nat.reduceAdd, Nat.reduceSub, Array.replicate_succ, Array.replicate_zero, List.push_toArray, List.append_toArray, List.nil_append, List.cons_append]
  apply wpS_seq
  apply wpS_region
  simp [wpOpsS, go_sem, recoverD, hu, Exit.thenS]
  refine wpS_of_wp ?_
  generalize hQ : (fun (e : Exit) (a' : Act) (w' : World) => bodyPostS Tryz.prog _ c₀ cs _ e a' _ w') = Q
  go_wp2
  rw [← hQ]
  cases c₀
  simp_all [bodyPostS, results, Tryz.results40]
theorem Bef.other {w0 w : World} {b Z : Nat} {r : ByteArray} {l : Row} {ps : Pq} {o : Obj} (h : Bef w0 b r l ps w) (hz : w.heap[Z]? = some o) (ho : ¬ weak o) (hB : w0.heap.size ≤ Z) (i : Nat) (u : Value) : Bef w0 b r l ps (w.setCell ⟨Z, i, none⟩ u) := by
  have hk : ∀ (k : Nat) (x : Obj), w.heap[k]? = some x → weak x → (w.setCell ⟨Z, i, none⟩ u).heap[k]? = some x := fun k x hx hw => by
    rw [Below.heap_setCell w ⟨Z, i, none⟩ u k (fun e => ?_)]
    · exact hx
    · have e : k = Z := e
      subst e
      rw [hx] at hz
      injection hz with hz
      exact ho (hz ▸ hw)
  obtain ⟨hb, p, v, h⟩ := h
  refine ⟨hb.setCell (p := ⟨Z, i, none⟩) hB _, p, v, h.hB, hk _ _ h.at0 ⟨_, _, _, rfl, .inr (.inr rfl)⟩, h.ptr, ownsRowF_kept h.row (fun k x hx hq => hk k x hx ?_), h.nil, psOwn_kept h.pcs (fun k x hx hq => hk k x hx ?_)⟩
  · obtain ⟨cs, fr, hx'⟩ := rowB_type h.row hq
    rw [hx] at hx'
    injection hx' with hx'
    exact ⟨cs, _, fr, hx', .inl rfl⟩
  · obtain ⟨cs, fr, hx'⟩ := rowP_type h.pcs hq
    rw [hx] at hx'
    injection hx' with hx'
    exact ⟨cs, _, fr, hx', .inr (.inl rfl)⟩
/-- a document read, or the error -/
def FaultP (w0 : World) (b : Nat) (s : ByteArray) (e : Ending) (w' : World) : Prop :=
  (∃ (ps : List Pc) (q' : Value), docP s.data.toList = some ps ∧ e = .returned (.int .i64 0) ∧ Bef w0 b ⟨#[]⟩ [] (ps, q') w') ∨ (docP s.data.toList = none ∧ e = .returned (.int .i64 70) ∧ Below w0.heap.size w0 w')
theorem not_weak_errno (cs : Array Value) (fr : Nat × Nat) : ¬ weak (.cells cs 24 fr) := by
  rintro ⟨cs', t, fr', e, h⟩
  injection e with _ e _
  subst e
  revert h; decide
set_option maxHeartbeats 2000000 in
set_option maxRecDepth 100000 in
theorem fault_any {w0 w : World} (hG : Gw w0) {b : Nat} {s : ByteArray} {q : Value} (h : Bef w0 b s [] ([], q) w) (hs : s.size ≤ 65536) :
    Calls Tryz.prog 28 #[.func (.func 29) #[.pointer (some ⟨b, 0, none⟩)] #[]] w fun e w' => FaultP w0 b s e w' := by
  have hmf : ∀ (fn : Fn) (first cap : Array Value) (w : World), (Instr.makeFunc fn first cap).run Tryz.prog w = .ok (.func fn first cap) w := fun _ _ _ _ => rfl
  obtain ⟨Z, hZ⟩ : ∃ Z, w.heap.size = Z := ⟨_, rfl⟩
  have hal : Below w.heap.size w (w.alloc (.cells #[.int .i64 0] 24)) := (Below.refl _ _).alloc (Nat.le_refl _) _
  have hz1 : (w.alloc (.cells #[.int .i64 0] 24)).heap[Z]? = some (.cells #[.int .i64 0] 24 (0, 0)) := by rw [← hZ]; exact heap_alloc_new w _
  have h1 := h.kept hal
  have hB0 : w0.heap.size ≤ Z := by rw [← hZ]; exact h.bel.size
  have hown : Hid (PsOwn w0.heap.size q [] (w.alloc (.cells #[.int .i64 0] 24))) := Lib.hid (by
    obtain ⟨p', v', hv'⟩ := h1.rd
    exact hv'.pcs)
  have cD := document_any hG h1 hs
  clear h h1 hal
  go_enter_defers Tryz.func28, Tryz.ntmps28
  go_wp2_with fail
  go_at_call 29
  with_reducible refine cD.mono ?_
  rintro e w2 hq
  clear cD
  rcases hq with ⟨ps, q', hd, rfl, h2, hk⟩ | ⟨hd, rfl, h2, q', hk⟩
  · have hz2 := hk.old hown.out Z _ hz1 (not_weak_errno _ _)
    have y0 : w2.cell? ⟨Z, 0, none⟩ = some (.int .i64 0) := by rw [Lib.cell_of_heap hz2]; rfl
    have f0 : w2.frozen? ⟨Z, 0, none⟩ = false := Lib.frozen_of_heap hz2 0
    have hfin : Hid (FaultP w0 b s (.returned (.int .i64 0)) (w2.setCell ⟨Z, 0, none⟩ (.int .i64 0))) := Lib.hid (.inl ⟨ps, q', hd, rfl, h2.other hz2 (not_weak_errno _ _) hB0 0 _⟩)
    have hcI := catch_idle ⟨Z, 0, none⟩ (w2.setCell ⟨Z, 0, none⟩ (.int .i64 0))
    have y1 : (w2.setCell ⟨Z, 0, none⟩ (.int .i64 0)).cell? ⟨Z, 0, none⟩ = some (.int .i64 0) := by rw [World.cell?_setCell_same _ _ _ y0]
    clear hd h2 hk hz1 hown
    go_wp2
    refine leaves_cons (f := 40) (args := #[.pointer (some ⟨Z, 0, none⟩)]) (by simp) (by simp [go_sem]) ?_
    refine hcI.mono ?_
    rintro e u' w'' ⟨rfl, rfl, rfl⟩
    simp [Leaves, settle, results, Tryz.results28, go_sem, y1]
    exact hfin.out
  · have hz2 := hk.old hown.out Z _ hz1 (not_weak_errno _ _)
    have y0 : w2.cell? ⟨Z, 0, none⟩ = some (.int .i64 0) := by rw [Lib.cell_of_heap hz2]; rfl
    have f0 : w2.frozen? ⟨Z, 0, none⟩ = false := Lib.frozen_of_heap hz2 0
    have hfin : Hid (FaultP w0 b s (.returned (.int .i64 70)) (w2.setCell ⟨Z, 0, none⟩ (.int .i64 70))) := Lib.hid (.inr ⟨hd, rfl, h2.setCell (p := ⟨Z, 0, none⟩) hB0 _⟩)
    clear hd h2 hk hz1 hown
    have hcG := catch_gone ⟨Z, 0, none⟩ 0 w2 y0 f0
    have y1 : (w2.setCell ⟨Z, 0, none⟩ (.int .i64 70)).cell? ⟨Z, 0, none⟩ = some (.int .i64 70) := by rw [World.cell?_setCell_same _ _ _ y0]
    unfold gone
    go_wp2
    refine leaves_cons (f := 40) (args := #[.pointer (some ⟨Z, 0, none⟩)]) (by simp) (by simp [go_sem]) ?_
    refine hcG.mono ?_
    rintro e u' w'' ⟨rfl, rfl, rfl⟩
    simp [Leaves, settle, results, Tryz.results28, go_sem, y1]
    exact hfin.out
/-! ### Parse -/
theorem parseX_long {t : Row} (h : 65536 < t.length) : parseX t = ([], 11) := if_pos h
theorem parseX_bad {t : Row} (h : ¬ 65536 < t.length) (hv : Ch.valid t = false) : parseX t = ([], 10) := by
  unfold parseX; rw [if_neg h, if_pos hv]
theorem parseX_none {t : Row} (h : ¬ 65536 < t.length) (hv : Ch.valid t = true) (hd : docP t = none) : parseX t = ([], 70) := by
  unfold parseX; rw [if_neg h, if_neg (by rw [hv]; decide), hd]
theorem parseX_some {t : Row} {ps : List Pc} (h : ¬ 65536 < t.length) (hv : Ch.valid t = true) (hd : docP t = some ps) : parseX t = (ps, 0) := by
  unfold parseX; rw [if_neg h, if_neg (by rw [hv]; decide), hd]
def ParseP (w : World) (t : ByteArray) (e : Ending) (w' : World) : Prop := (∃ v, e = .returned (.tuple #[v, .int .i64 (parseX t.data.toList).2]) ∧ PcsAt w' v (parseX t.data.toList).1) ∧ Below w.heap.size w w'
theorem ParseP.of {w w' : World} {t : ByteArray} {v : Value} {ps : List Pc} {c : Int} (h : parseX t.data.toList = (ps, c)) (hp : PcsAt w' v ps) (hb : Below w.heap.size w w') : ParseP w t (.returned (.tuple #[v, .int .i64 c])) w' := ⟨⟨v, by rw [h], by rw [h]; exact hp⟩, hb⟩
theorem bef_new (w : World) (t : ByteArray) : Bef w w.heap.size t [] ([], .slice none 0 0) (w.alloc (.cells #[.string t, .pointer none, .slice none 0 0, .slice none 0 0] 61)) :=
  ⟨(Below.refl _ _).alloc (Nat.le_refl _) _, .pointer none, .slice none 0 0, Nat.le_refl _, heap_alloc_new w _, .inl rfl, ⟨rfl, .inl ⟨rfl, rfl⟩⟩, fun _ => rfl, PsOwn.nil _ _⟩
set_option maxHeartbeats 2000000 in
set_option maxRecDepth 100000 in
theorem parse_any : ParseC := fun t w ht hG => by
  have hmf : ∀ (fn : Fn) (first cap : Array Value) (w : World), (Instr.makeFunc fn first cap).run Tryz.prog w = .ok (.func fn first cap) w := fun _ _ _ _ => rfl
  show Calls Tryz.prog 14 #[.string t] w fun e w' => ParseP w t e w'
  have hsz := Lib.size_eq t
  by_cases h0 : 65536 < t.size
  · have hfin := Lib.hid (ParseP.of (v := .slice none 0 0) (parseX_long (by rw [← hsz]; exact h0)) (PcsAt.nil w none) (Below.refl _ _))
    clear hsz
    go_enter Tryz.func14, Tryz.ntmps14
    go_wp2
    go_ret2
    exact hfin.out
  · have cV := Ch.valid_any t w (by omega) hG.tabs
    have hl : ¬ 65536 < t.data.toList.length := by rw [← hsz]; exact h0
    clear hsz
    go_enter Tryz.func14, Tryz.ntmps14
    go_wp2_with fail
    go_at_call 27
    refine cV.mono ?_
    rintro e w1 ⟨rfl, hb⟩
    clear cV
    cases hv : Ch.valid t.data.toList with
    | false =>
      have hfin := Lib.hid (ParseP.of (v := .slice none 0 0) (parseX_bad hl hv) (PcsAt.nil w1 none) hb)
      clear hv hb
      go_wp2
      go_ret2
      exact hfin.out
    | true =>
      have cF := fault_any (gw_below hG hb) (bef_new w1 t) (by omega)
      have hv' := Lib.hid hv
      have hb' := Lib.hid hb
      clear hv hb
      go_wp2_with fail
      go_at_call 28
      refine cF.mono ?_
      rintro e w2 hq
      clear cF
      rcases hq with ⟨ps, q', hd, rfl, h2⟩ | ⟨hd, rfl, h2⟩
      · obtain ⟨p3, v3, h3⟩ := h2.rd
        have c3 := h3.cell.2.2.2
        have hfin := Lib.hid (ParseP.of (v := q') (parseX_some hl hv'.out hd) h3.pcs.at (hb'.out.trans (h2.bel.mono hb'.out.size)))
        clear hd h2 h3
        go_wp2
        go_ret2
        exact hfin.out
      · have hfin := Lib.hid (ParseP.of (v := .slice none 0 0) (parseX_none hl hv'.out hd) (PcsAt.nil w2 none) (hb'.out.trans (h2.mono hb'.out.size)))
        clear hd h2
        go_wp2
        go_ret2
        exact hfin.out
end Go.Proofs.YtjeagjleolmibaaGreatDoor.Xm

/-
  WALKS OF THE PROGRAM's CHECK OF LAYER xml: isOpen, isChars.
-/
set_option linter.unusedVariables false
namespace Go.Proofs.YtjeagjleolmibaaGreatDoor.Xm
open Go.Lib Go.RowKit

def openB (k sp : Int) (n t : ByteArray) : Bool := decide (k = 1) && okTag ⟨k, sp, n.data.toList, t.data.toList⟩
def charsB (k sp : Int) (n t : ByteArray) : Bool := decide (k = 3) && okTxt ⟨k, sp, n.data.toList, t.data.toList⟩
theorem open_of {k sp : Int} {n t : ByteArray} {K : Bool} (hs : 0 ≤ sp ∧ sp ≤ 2) (hn : nameB n.data.toList = true) (hK : (k == 1 && sp == sp && n.toList == n.toList && t.toList == (⟨#[]⟩ : ByteArray).toList) = K) : openB k sp n t = K := by
  rw [← hK, Lib.toList_data, Lib.toList_data, Lib.toList_data]
  unfold openB okTag
  rw [hn, decide_eq_true hs]
  cases hx : t.data.toList with
  | nil => by_cases h1 : k = 1 <;> simp [h1]
  | cons c r => by_cases h1 : k = 1 <;> simp [h1]
theorem open_name {k sp : Int} {n t : ByteArray} (hn : nameB n.data.toList = false) : openB k sp n t = false := by
  unfold openB okTag
  rw [hn, Bool.and_false, Bool.and_false]
theorem open_space {k sp : Int} {n t : ByteArray} (hs : ¬ (0 ≤ sp ∧ sp ≤ 2)) : openB k sp n t = false := by
  unfold openB okTag
  rw [decide_eq_false hs, Bool.and_false, Bool.false_and, Bool.and_false]
theorem chars_of {k sp : Int} {n t : ByteArray} {K : Bool} (hv : Ch.valid t.data.toList = true) (hb : blanks t.data.toList = false) (hK : (k == 3 && sp == 0 && n.toList == (⟨#[]⟩ : ByteArray).toList && t.toList == t.toList) = K) : charsB k sp n t = K := by
  rw [← hK, Lib.toList_data, Lib.toList_data, Lib.toList_data]
  unfold charsB okTxt
  rw [hv, hb]
  cases hx : n.data.toList with
  | nil => by_cases h1 : k = 3 <;> by_cases h2 : sp = 0 <;> simp [h1, h2]
  | cons c r => by_cases h1 : k = 3 <;> by_cases h2 : sp = 0 <;> simp [h1, h2]
theorem chars_bad {k sp : Int} {n t : ByteArray} (hv : Ch.valid t.data.toList = false) : charsB k sp n t = false := by
  unfold charsB okTxt
  rw [hv, Bool.false_and, Bool.and_false, Bool.and_false]
theorem chars_blank {k sp : Int} {n t : ByteArray} (hb : blanks t.data.toList = true) : charsB k sp n t = false := by
  unfold charsB okTxt
  rw [hb]
  simp
theorem alloc2 {w : World} (a b : Obj) : Below w.heap.size w ((w.alloc a).alloc b) := ((Below.refl _ _).alloc (Nat.le_refl _) _).alloc (by simp) _
set_option maxHeartbeats 4000000 in
set_option maxRecDepth 100000 in
theorem isOpen_any (k sp : Int) (n t : ByteArray) (w : World) (hn : n.size ≤ 140737488355328) : Calls Tryz.prog 19 #[.agg #[.int .i64 k, .int .i64 sp, .string n, .string t]] w fun e w' => e = .returned (.bool (openB k sp n t)) ∧ Below w.heap.size w w' := by
  obtain ⟨R, hR⟩ : ∃ R, openB k sp n t = R := ⟨_, rfl⟩
  rw [hR]
  have cN := fun W => isName_any n W (by omega)
  have hE := eq_pc k sp 1 sp n t n ⟨#[]⟩
  obtain ⟨K, hK⟩ : ∃ K, (k == 1 && sp == sp && n.toList == n.toList && t.toList == (⟨#[]⟩ : ByteArray).toList) = K := ⟨_, rfl⟩
  rw [hK] at hE
  by_cases hs : 0 ≤ sp ∧ sp ≤ 2
  · have hcase : sp = 0 ∨ sp = 1 ∨ sp = 2 := by omega
    cases hnm : nameB n.data.toList with
    | true =>
      rw [hnm] at cN
      have hRK : R = K := by rw [← hR]; exact open_of hs hnm hK
      subst hRK
      clear hK hR hnm hs
      rcases hcase with rfl | rfl | rfl
      all_goals
        go_enter Tryz.func19, Tryz.ntmps19
        go_wp2_with fail
        go_at_call 32
        refine (cN _).mono ?_
        rintro e w2 ⟨rfl, rfl⟩
        go_wp2
        go_ret
        exact ⟨rfl, alloc2 _ _⟩
    | false =>
      rw [hnm] at cN
      have hRK : R = false := by rw [← hR]; exact open_name hnm
      subst hRK
      clear hK hR hnm hs
      rcases hcase with rfl | rfl | rfl
      all_goals
        go_enter Tryz.func19, Tryz.ntmps19
        go_wp2_with fail
        go_at_call 32
        refine (cN _).mono ?_
        rintro e w2 ⟨rfl, rfl⟩
        go_wp2
        go_ret
        exact ⟨rfl, alloc2 _ _⟩
  · have hRK : R = false := by rw [← hR]; exact open_space hs
    subst hRK
    have h0 : (sp == 0) = false := beq_eq_false_iff_ne.2 (by omega)
    have h1 : (sp == 1) = false := beq_eq_false_iff_ne.2 (by omega)
    have h2 : (sp == 2) = false := beq_eq_false_iff_ne.2 (by omega)
    clear hK hR hs cN hE
    go_enter Tryz.func19, Tryz.ntmps19
    go_wp2
    go_ret
    exact ⟨rfl, alloc2 _ _⟩
theorem two_0 (w : World) (a b : Obj) : ((w.alloc a).alloc b).heap[w.heap.size]? = some a := by
  have h := heap_alloc_new w a
  exact (((Below.refl _ _).alloc (Nat.le_refl _) b).block _ (Array.getElem?_eq_some_iff.1 h).1).trans h
theorem two_1 (w : World) (a b : Obj) : ((w.alloc a).alloc b).heap[w.heap.size + 1]? = some b := by
  have h := heap_alloc_new (w.alloc a) b
  rw [show (w.alloc a).heap.size = w.heap.size + 1 by simp] at h
  exact h
theorem kept_block {w w' : World} {k : Nat} {o : Obj} (h : w.heap[k]? = some o) (hb : Below w.heap.size w w') : w'.heap[k]? = some o := (hb.block k (Array.getElem?_eq_some_iff.1 h).1).trans h
theorem pc_cells {w : World} {Z : Nat} {k sp : Int} {n t : ByteArray} {ty : TypeId} (h : w.heap[Z]? = some (.cells #[.int .i64 k, .int .i64 sp, .string n, .string t] ty (0, 0))) :
    w.cell? ⟨Z, 0, none⟩ = some (.int .i64 k) ∧ w.cell? ⟨Z, 1, none⟩ = some (.int .i64 sp) ∧ w.cell? ⟨Z, 2, none⟩ = some (.string n) ∧ w.cell? ⟨Z, 3, none⟩ = some (.string t) := by
  refine ⟨?_, ?_, ?_, ?_⟩ <;> (rw [Lib.cell_of_heap h]; rfl)
set_option maxHeartbeats 4000000 in
set_option maxRecDepth 100000 in
theorem isChars_any (k sp : Int) (n t : ByteArray) (w : World) (ht : t.size ≤ 140737488355328) (hT : Ch.Tabs w) : Calls Tryz.prog 21 #[.agg #[.int .i64 k, .int .i64 sp, .string n, .string t]] w fun e w' => e = .returned (.bool (charsB k sp n t)) ∧ Below w.heap.size w w' := by
  obtain ⟨R, hR⟩ : ∃ R, charsB k sp n t = R := ⟨_, rfl⟩
  rw [hR]
  have cV := fun (W : World) (h : Ch.Tabs W) => Ch.valid_any t W (by omega) h
  have cB := fun W => isBlank_any t W (by omega)
  have hE := eq_pc k sp 3 0 n t ⟨#[]⟩ t
  obtain ⟨K, hK⟩ : ∃ K, (k == 3 && sp == 0 && n.toList == (⟨#[]⟩ : ByteArray).toList && t.toList == t.toList) = K := ⟨_, rfl⟩
  rw [hK] at hE
  have hbad := fun hv => (hR.symm.trans (chars_bad (k := k) (sp := sp) (n := n) (t := t) hv))
  have hblank := fun hb => (hR.symm.trans (chars_blank (k := k) (sp := sp) (n := n) (t := t) hb))
  have hgood := fun hv hb => (hR.symm.trans (chars_of (k := k) (sp := sp) (n := n) (t := t) hv hb hK))
  clear hR hK
  obtain ⟨V, hV⟩ : ∃ V, Ch.valid t.data.toList = V := ⟨_, rfl⟩
  obtain ⟨B, hB⟩ : ∃ B, blanks t.data.toList = B := ⟨_, rfl⟩
  rw [hV] at cV hbad hgood
  rw [hB] at cB hblank hgood
  have hgood := Lib.hid hgood
  have hbad := Lib.hid hbad
  have hblank := Lib.hid hblank
  clear hV hB
  go_enter Tryz.func21, Tryz.ntmps21
  go_wp2_with fail
  go_at_call 27
  have a0 := two_0 w (.cells #[.int .i64 k, .int .i64 sp, .string n, .string t] 37) (.cells #[.int .i64 3, .int .i64 0, .string ⟨#[]⟩, .string t] 37)
  have a1 := two_1 w (.cells #[.int .i64 k, .int .i64 sp, .string n, .string t] 37) (.cells #[.int .i64 3, .int .i64 0, .string ⟨#[]⟩, .string t] 37)
  have hb1 : Below w.heap.size w ((w.alloc (.cells #[.int .i64 k, .int .i64 sp, .string n, .string t] 37)).alloc (.cells #[.int .i64 3, .int .i64 0, .string ⟨#[]⟩, .string t] 37)) := alloc2 _ _
  refine (cV _ (Ch.tabs_below hT hb1)).mono ?_
  rintro e w2 ⟨rfl, hb2⟩
  clear cV
  have a0 := kept_block a0 hb2
  have a1 := kept_block a1 hb2
  have hb2' := hb1.trans (hb2.mono hb1.size)
  clear hb2 hb1
  obtain ⟨p0, p1, p2, p3⟩ := pc_cells a0
  obtain ⟨q0, q1, q2, q3⟩ := pc_cells a1
  cases V with
  | false =>
    have hRf := hbad.out rfl
    subst hRf
    clear a0 a1 cB hE hbad hblank hgood
    go_wp2
    go_ret
    exact ⟨rfl, hb2'⟩
  | true =>
    go_wp2_with fail
    go_at_call 33
    refine (cB _).mono ?_
    rintro e w3 ⟨rfl, hb3⟩
    clear cB p0 p1 p2 p3 q0 q1 q2 q3
    have a0 := kept_block a0 hb3
    have a1 := kept_block a1 hb3
    have hb3' := hb2'.trans (hb3.mono hb2'.size)
    clear hb3 hb2'
    obtain ⟨p0, p1, p2, p3⟩ := pc_cells a0
    obtain ⟨q0, q1, q2, q3⟩ := pc_cells a1
    cases B with
    | true =>
      have hRf := hblank.out rfl
      subst hRf
      clear a0 a1 hE hbad hblank hgood
      go_wp2
      go_ret
      exact ⟨rfl, hb3'⟩
    | false =>
      have hRf := hgood.out (by trivial) (by trivial)
      subst hRf
      clear a0 a1 hbad hblank hgood
      go_wp2
      go_ret
      exact ⟨rfl, hb3'⟩
end Go.Proofs.YtjeagjleolmibaaGreatDoor.Xm

/-
  THE WALK OF THE PROGRAM's Check OF LAYER xml: are pieces a document's?
-/
set_option linter.unusedVariables false
namespace Go.Proofs.YtjeagjleolmibaaGreatDoor.Xm
open Go.Lib Go.RowKit

/-- what is open: beginnings of elements -/
def Opn (os : List Pc) : Prop := ∀ q ∈ os, q.kind = 1 ∧ okTag q = true
theorem Opn.nil : Opn [] := fun q hq => by cases hq
theorem Opn.snoc {os : List Pc} {p : Pc} (h : Opn os) (h1 : p.kind = 1) (h2 : okTag p = true) : Opn (os ++ [p]) := fun q hq => by
  rcases List.mem_append.1 hq with hq | hq
  · exact h q hq
  · rw [List.mem_singleton] at hq; subst hq; exact ⟨h1, h2⟩
theorem Opn.pop {os : List Pc} {p : Pc} (h : Opn (os ++ [p])) : Opn os ∧ p.kind = 1 ∧ okTag p = true := ⟨fun q hq => h q (List.mem_append_left _ hq), h p (by simp)⟩
theorem okTag_end {p q : Pc} (h : okTag q = true) (h1 : p.space = q.space) (h2 : p.name = q.name) (h3 : p.text = []) : okTag p = true := by
  unfold okTag at h ⊢
  simp only [Bool.and_eq_true, decide_eq_true_eq, List.isEmpty_iff] at h ⊢
  rw [h1, h2, h3]
  exact ⟨⟨rfl, h.1.2⟩, h.2⟩
/-- a piece that ends what is open last -/
def endB (p q : Pc) : Bool := decide (p.kind = 2 ∧ p.space = q.space ∧ p.name = q.name ∧ p.text = [])
theorem end_of {k sp qs : Int} {a1 a2 b1 : ByteArray} {q : Pc} (h : q.space = qs) (hb : b1.data.toList = q.name) : (k == 2 && sp == qs && a1.toList == b1.toList && a2.toList == (⟨#[]⟩ : ByteArray).toList) = endB ⟨k, sp, a1.data.toList, a2.data.toList⟩ q := by
  unfold endB
  rw [Lib.toList_data, Lib.toList_data, Lib.toList_data, Lib.toList_data, hb, ← h, Bool.eq_iff_iff, decide_eq_true_iff]
  simp only [Bool.and_eq_true, beq_iff_eq, and_assoc]
theorem rgt_end {c : Bool} {os : List Pc} {p q : Pc} {r : List Pc} {f : Bool} (ho : Opn (os ++ [q])) (h : endB p q = true) : rgt f c (stk (os ++ [q])) (p :: r) = rgt false false (stk os) r := by
  obtain ⟨h1, h2, h3, h4⟩ := of_decide_eq_true h
  rw [stk_snoc, show (q.name, q.space) = (p.name, p.space) by rw [h2, h3]]
  exact rgt_2 h1 (okTag_end ho.pop.2.2 h2 h3 h4)
theorem okTag_text {p : Pc} (h : okTag p = true) : p.text = [] := by
  unfold okTag at h
  simp only [Bool.and_eq_true, List.isEmpty_iff] at h
  exact h.1.1
/-- a piece with which nothing goes on -/
theorem rgt_stop {f c : Bool} {os : List Pc} {p : Pc} {r : List Pc} {R : Bool} (h : rgt f c (stk os) (p :: r) = R)
    (h1 : p.kind = 1 → okTag p = true → 16 ≤ os.length) (h2 : ∀ s q, os = s ++ [q] → endB p q = false) (h3 : p.kind = 3 → okTxt p = true → f = false → os ≠ [] → c = true) (hf : f = true → os = []) : R = false := by
  refine rgt_no h fun hx => ?_
  rcases hx with ⟨h0, ⟨a, b, l⟩ | ⟨a, b, s, e⟩ | ⟨a, e1, e2, e3⟩⟩
  · rw [stk_len] at l
    have := h1 a b; omega
  · rcases List.eq_nil_or_concat os with rfl | ⟨s2, q, eos⟩
    · cases e
    · rw [List.concat_eq_append] at eos
      subst eos
      rw [stk_snoc] at e
      injection e with e _
      injection e with n1 n2
      have := h2 s2 q rfl
      unfold endB at this
      rw [decide_eq_false_iff_not] at this
      exact this ⟨a, n2.symm, n1.symm, okTag_text b⟩
  · rcases h0 with h0 | h0
    · rw [h0] at e1; cases e1
    · have := h3 a e3 e1 (fun e => h0 ((stk_nil os).2 e))
      rw [this] at e2; cases e2
theorem pc_eta (p : Pc) : p = ⟨p.kind, p.space, p.name, p.text⟩ := rfl

set_option maxHeartbeats 8000000 in
set_option maxRecDepth 100000 in
theorem check_any : CheckC := fun v ps w hv hsz hG => by
  obtain ⟨A, b, off, c, rfl, hc1, hc2, hA, hP⟩ := hv
  unfold maxLen at hc2
  obtain ⟨R, hR⟩ : ∃ R, right ps = R := ⟨_, rfl⟩
  rw [hR]
  obtain ⟨C, hC⟩ : ∃ C : Int, (if R = true then 0 else 70) = C := ⟨_, rfl⟩
  rw [hC]
  obtain ⟨n, hn⟩ : ∃ n, ps.length = n := ⟨_, rfl⟩
  obtain ⟨Z, hZ⟩ : ∃ Z, w.heap.size = Z := ⟨_, rfl⟩
  rw [hn] at hc1 hA ⊢
  have hn' := Lib.hid hn
  have hP' := Lib.hid hP
  have hA' := Lib.hid hA
  have hR' := Lib.hid hR
  have hC' := Lib.hid hC
  have hsz' : Hid (∀ p ∈ ps, p.name.length ≤ 68719476736 ∧ p.text.length ≤ 68719476736) := Lib.hid fun p hp => by
    have := szs_mem hp
    unfold mostP at hsz
    unfold szP at this
    omega
  have hG' := Lib.hid hG
  have hZ' := Lib.hid hZ
  clear hn hP hA hR hC hsz hZ hG
  go_enter Tryz.func9, Tryz.ntmps9
  go_wp2
  go_loopw [3, 9] (fun s3 s9 wr => ∃ (k : Nat) (os : List Pc), s9 = .int .i64 (k : Int) ∧ k ≤ n ∧ PsOwn Z s3 os wr ∧ os.length ≤ 16 ∧ Opn os ∧ (k = 0 → os = []) ∧ Below Z w wr ∧ rgt (decide (k = 0)) (was ps k) (stk os) (ps.drop k) = R) (fun s3 s9 wr => n - (RowKit.intOf s9).toNat)
  case atStart =>
    refine ⟨0, [], rfl, Nat.zero_le _, PsOwn.nil _ _, by decide, Opn.nil, fun _ => rfl, by rw [← hZ'.out]; exact Below.refl _ _, ?_⟩
    rw [← hR'.out, List.drop_zero]; rfl
  case round =>
    obtain ⟨k, os, rfl, hk, hown, hos, hopn, hk0, hB, hr⟩ := hrel
    obtain ⟨A2, b2, off2, c2, rfl, ho1, ho2, ho3, ho4⟩ := hown.at
    unfold maxLen at ho2
    have hZr : Z ≤ wr.heap.size := by have := hB.size; rw [hZ'.out] at this; exact this
    have hB' := Lib.hid hB
    have hown' := Lib.hid hown
    have ho3' := Lib.hid ho3
    have ho4' := Lib.hid ho4
    have hopn' := Lib.hid hopn
    have hk0' := Lib.hid hk0
    clear hB hown ho3 ho4 hopn hk0
    by_cases hlt : k < n
    · have hp : ps[k]? = some (ps[k]'(by have := hn'.out; omega)) := List.getElem?_eq_getElem _
      obtain ⟨p, hPe⟩ : ∃ p, ps[k]'(by have := hn'.out; omega) = p := ⟨_, rfl⟩
      rw [hPe] at hp
      clear hPe
      rw [drop_next hp] at hr
      obtain ⟨rfl, hAb⟩ := hA'.out (by omega)
      obtain ⟨a1, a2, d1, d2, p0, p1, p2, p3⟩ := PcsAt.piece hP'.out hAb (by rw [hZ'.out]; exact hB'.out) hp
      have hs1 : a1.size ≤ 68719476736 := by
        have := (hsz'.out p (List.mem_of_getElem? hp)).1
        rw [← d1, ← Lib.size_eq] at this; exact this
      have hs2 : a2.size ≤ 68719476736 := by
        have := (hsz'.out p (List.mem_of_getElem? hp)).2
        rw [← d2, ← Lib.size_eq] at this; exact this
      obtain ⟨kd, sp, nm, tx⟩ := p
      simp only at d1 d2 p0 p1
      subst d1
      subst d2
      have hstop := Lib.hid (fun h1 h2 h3 hf => rgt_stop (os := os) hr h1 h2 h3 hf)
      have hno := Lib.hid (fun hn => rgt_no hr hn)
      have hr' := Lib.hid hr
      have hp' := Lib.hid hp
      clear hr hp
      have cO := fun W => isOpen_any kd sp a1 a2 W (by omega)
      obtain ⟨O, hO⟩ : ∃ O, openB kd sp a1 a2 = O := ⟨_, rfl⟩
      rw [hO] at cO
      have hO' := Lib.hid hO
      clear hO
      have hal : Hid (Below Z w (wr.alloc (.cells #[.int .i64 kd, .int .i64 sp, .string a1, .string a2] 37))) := Lib.hid (hB'.out.alloc hZr _)
      by_cases hz : 0 < k ∧ os.length = 0
      · obtain ⟨z1, z2⟩ := hz
        have hRf : R = false := hno.out fun h => by
          rcases h.1 with h | h
          · have := of_decide_eq_true h; omega
          · exact h ((stk_nil os).2 (List.eq_nil_of_length_eq_zero z2))
        have hCf : C = 70 := by rw [← hC'.out, hRf]; rfl
        subst hCf
        have z1' : (0 : Int) < (k : Int) := by omega
        rw [z2]
        clear cO hRf
        go_wp2
        go_ret
        exact ⟨rfl, by rw [hZ'.out]; exact hal.out⟩
      · have hcase : (¬ (0 : Int) < (k : Int)) ∨ ((0 : Int) < (k : Int) ∧ ((os.length : Int) == 0) = false) := by
          by_cases hk0 : k = 0
          · exact .inl (by omega)
          · exact .inr ⟨by omega, beq_eq_false_iff_ne.2 (by omega)⟩
        have hkz : k = 0 ∨ os ≠ [] := by
          by_cases hk0 : k = 0
          · exact .inl hk0
          · exact .inr fun e => hz ⟨by omega, by rw [e]; rfl⟩
        have hkz' := Lib.hid hkz
        clear hz hkz
        have a0 : Hid ((wr.alloc (.cells #[.int .i64 kd, .int .i64 sp, .string a1, .string a2] 37)).heap[wr.heap.size]? = some (.cells #[.int .i64 kd, .int .i64 sp, .string a1, .string a2] 37 (0, 0))) := Lib.hid (heap_alloc_new wr _)
        have hb1 : Hid (Below wr.heap.size wr (wr.alloc (.cells #[.int .i64 kd, .int .i64 sp, .string a1, .string a2] 37))) := Lib.hid ((Below.refl _ _).alloc (Nat.le_refl _) _)
        obtain ⟨w1, hw1⟩ : ∃ w1, wr.alloc (.cells #[.int .i64 kd, .int .i64 sp, .string a1, .string a2] 37) = w1 := ⟨_, rfl⟩
        rw [hw1] at a0 hb1 hal
        obtain ⟨x0, x1, x2, x3⟩ := pc_cells a0.out
        rcases hcase with z1 | ⟨z1, z2⟩
        all_goals
          go_wp2_with fail
          go_at_call 19
          refine (cO _).mono ?_
          rintro e w2 ⟨rfl, hb2⟩
          clear cO x0 x1 x2 x3
          have a2 := kept_block a0.out hb2
          obtain ⟨x0, x1, x2, x3⟩ := pc_cells a2
          have hb3 := Lib.hid (hb1.out.trans (hb2.mono hb1.out.size))
          have hal3 := Lib.hid (hal.out.trans (hb2.mono (show Z ≤ w1.heap.size by have := hb1.out.size; omega)))
          have a2' := Lib.hid a2
          have hZ2 : Z ≤ w2.heap.size := by have h1 := hb1.out.size; have h2 := hb2.size; omega
          clear hb2 a2
          by_cases hOl : O = true ∧ os.length < 16
          · obtain ⟨rfl, hl⟩ := hOl
            have hl' : (os.length : Int) < 16 := by omega
            have hOo := hO'.out
            unfold openB at hOo
            rw [Bool.and_eq_true, decide_eq_true_eq] at hOo
            obtain ⟨hk1, htag⟩ := hOo
            subst hk1
            have hnext := Lib.hid (show rgt (decide (k + 1 = 0)) (was ps (k + 1)) (stk (os ++ [⟨1, sp, a1.data.toList, a2.data.toList⟩])) (ps.drop (k + 1)) = R from by
              rw [stk_snoc, was_next hp'.out, ← hr'.out, rgt_1 (hkz'.out.imp decide_eq_true (fun h e => h ((stk_nil os).1 e))) rfl htag (by rw [stk_len]; exact hl)]; rfl)
            have hopn2 := Lib.hid (hopn'.out.snoc (p := ⟨1, sp, a1.data.toList, a2.data.toList⟩) rfl htag)
            have hown2 := Lib.hid (hown'.out.kept hb3.out)
            clear htag
            go_wp2_with (at_builtin; refine append_piece ⟨1, sp, a1.data.toList, a2.data.toList⟩ a1 a2 1 sp ?i1 ?i2 ?i3 ?i4 rfl _ _ rfl Z _ os _ ?i8 rfl rfl ?i5 ?i6 ?i7 ?_)
            case i1 => exact sv_data a1
            case i2 => exact sv_data a2
            case i3 => rfl
            case i4 => rfl
            case i5 => exact hown2.out
            case i6 => omega
            case i7 => omega
            case i8 => rfl
            intro v7 w7 hown7 hg7
            have hB7 := Lib.hid (left_of hown2.out hg7 Z w hal3.out (Nat.le_refl _) hZ2)
            obtain ⟨ao7, co7, e7⟩ := ownsRow_form hown7
            rw [List.length_append, List.length_singleton] at e7
            subst e7
            have hown7' := Lib.hid hown7
            clear hg7 hown7
            go_wp2
            go_roundw
            case rel => exact ⟨k + 1, os ++ [⟨1, sp, a1.data.toList, a2.data.toList⟩], by go_num, by omega, hown7'.out, by simp; omega, hopn2.out, by omega, hB7.out, hnext.out⟩
            case measure => simp [RowKit.intOf]; omega
          · rcases List.eq_nil_or_concat os with rfl | ⟨os2, q, eos⟩
            · have hOf : O = false := by
                cases O
                · rfl
                · exact absurd ⟨rfl, by decide⟩ hOl
              subst hOf
              have hRf : R = false := hstop.out (fun g1 g2 => by
                have := hO'.out
                unfold openB at this
                rw [g2, Bool.and_true, decide_eq_false_iff_not] at this
                exact absurd g1 this) (fun s q e => by simp at e) (fun _ _ _ h => absurd rfl h) (fun _ => rfl)
              have hCf : C = 70 := by rw [← hC'.out, hRf]; rfl
              subst hCf
              clear hRf hOl
              first
                | exact absurd z2 (by simp)
                | (go_wp2_with fail
                   go_quiet (fail)
                   go_wp2
                   go_ret
                   exact ⟨rfl, by rw [hZ'.out]; exact below_drewN _ hal3.out⟩)
            · rw [List.concat_eq_append] at eos
              subst eos
              rw [List.length_append, List.length_singleton] at hos ho1 ho3' hown' hOl ⊢
              obtain ⟨N, hN⟩ : ∃ N, os2.length = N := ⟨_, rfl⟩
              rw [hN] at hos ho1 ho3' hown' hOl ⊢
              obtain ⟨M, hM⟩ : ∃ M, N + 1 = M := ⟨_, rfl⟩
              rw [hM] at hos ho1 ho3' hown' hOl ⊢
              have hkp : 0 < k := by
                rcases Nat.eq_zero_or_pos k with h | h
                · have := hk0'.out h; simp at this
                · exact h
              have hO25 : O = false ∨ (O = true ∧ ¬ (M : Int) < 16) := by
                cases O
                · exact .inl rfl
                · exact .inr ⟨rfl, fun h => hOl ⟨rfl, by omega⟩⟩
              obtain ⟨rfl, hbl2⟩ := ho3'.out (by omega)
              have hqj : (os2 ++ [q])[N]? = some q := by rw [← hN]; simp
              have hcq : Hid (∀ W, Below w2.heap.size w2 W → PcCells W b2 (off2 + N * 4) q) := Lib.hid fun W hW => (ho4'.out N q hqj).kept hbl2 (hb3.out.trans (hW.mono hb3.out.size))
              have hcp : Hid (∀ W, Below w2.heap.size w2 W → W.heap[wr.heap.size]? = some (.cells #[.int .i64 kd, .int .i64 sp, .string a1, .string a2] 37 (0, 0))) := Lib.hid fun W hW => kept_block a2'.out hW
              obtain ⟨b1, eb1, db1⟩ := sv_some q.name
              obtain ⟨b3, eb3, db3⟩ := sv_some q.text
              obtain ⟨qs, hqs⟩ : ∃ qs, q.space = qs := ⟨_, rfl⟩
              obtain ⟨qk, hqk⟩ : ∃ qk, q.kind = qk := ⟨_, rfl⟩
              have hE := eq_pc kd sp 2 qs a1 a2 b1 ⟨#[]⟩
              rw [end_of hqs db1] at hE
              obtain ⟨E, hEE⟩ : ∃ E, endB ⟨kd, sp, a1.data.toList, a2.data.toList⟩ q = E := ⟨_, rfl⟩
              rw [hEE] at hE
              have hEE' := Lib.hid hEE
              have cC := fun W => closing_any qk qs b1 b3 W
              have hSS : ∀ W, Below w2.heap.size w2 W → Below w2.heap.size w2 W ∧ (W.cell? ⟨wr.heap.size, 0, none⟩ = some (.int .i64 kd) ∧ W.cell? ⟨wr.heap.size, 1, none⟩ = some (.int .i64 sp) ∧ W.cell? ⟨wr.heap.size, 2, none⟩ = some (.string a1) ∧ W.cell? ⟨wr.heap.size, 3, none⟩ = some (.string a2)) ∧
                  (W.cell? ⟨b2, off2 + N * 4, none⟩ = some (.int .i64 qk) ∧ W.cell? ⟨b2, off2 + N * 4 + 1, none⟩ = some (.int .i64 qs) ∧ W.cell? ⟨b2, off2 + N * 4 + 2, none⟩ = some (.string b1) ∧ W.cell? ⟨b2, off2 + N * 4 + 3, none⟩ = some (.string b3)) := fun W hW => by
                obtain ⟨y0, y1, y2, y3⟩ := pc_cells (hcp.out W hW)
                obtain ⟨v0, v1, v2, v3⟩ := hcq.out W hW
                rw [hqk] at v0
                rw [hqs] at v1
                rw [eb1] at v2
                rw [eb3] at v3
                exact ⟨hW, ⟨y0, y1, y2, y3⟩, v0, v1, v2, v3⟩
              have hSS' := Lib.hid hSS
              have hn1 : (M : Int) - 1 = (N : Int) := by omega
              have hn2 : (0 : Int) < (M : Int) := by omega
              have hn3 : (N : Int) < (M : Int) := by omega
              have hn4 : (0 : Int) ≤ (N : Int) := by omega
              have hn5 : (N : Int) ≤ (M : Int) := by omega
              have hn6 : decide ((0 : Int) < (M : Int)) = true := decide_eq_true hn2
              have hn7 : 0 < M := by omega
              have hn8 : decide (0 < M) = true := decide_eq_true hn7
              have hn9 : IntKind.i64.wrap ((M : Int) - 1) = (N : Int) := (IntWalk.i64_in _ (by omega)).trans hn1
              have hn10 : N < M := by omega
              have hn12 : IntKind.i64.wrap (N : Int) = (N : Int) := IntWalk.i64_in _ (by omega)
              have hn11 : wrap64 ((M : Int) - 1) = (N : Int) := (IntWalk.wrap64_in _ (by omega)).trans hn1
              have hM' := Lib.hid hM
              clear hM
              clear hSS hcq hqj eb1 eb3 hEE hqk hOl x0 x1 x2 x3
              rcases hO25 with rfl | ⟨rfl, hO16⟩
              all_goals first | (exfalso; omega) | skip
              all_goals
                go_wp2_with fail
                go_region_held3 (fun W => Below w2.heap.size w2 W ∧ (W.cell? ⟨wr.heap.size, 0, none⟩ = some (.int .i64 kd) ∧ W.cell? ⟨wr.heap.size, 1, none⟩ = some (.int .i64 sp) ∧ W.cell? ⟨wr.heap.size, 2, none⟩ = some (.string a1) ∧ W.cell? ⟨wr.heap.size, 3, none⟩ = some (.string a2)) ∧
                  (W.cell? ⟨b2, off2 + N * 4, none⟩ = some (.int .i64 qk) ∧ W.cell? ⟨b2, off2 + N * 4 + 1, none⟩ = some (.int .i64 qs) ∧ W.cell? ⟨b2, off2 + N * 4 + 2, none⟩ = some (.string b1) ∧ W.cell? ⟨b2, off2 + N * 4 + 3, none⟩ = some (.string b3)))
                  (refine hSS'.out _ ?_ <;> first | exact Below.drew (Below.refl _ _) | exact below_then (And.left (by assumption)) (by assumption) | exact And.left (by assumption) | assumption)
                  (first | (go_at_call 20; ((with_reducible refine (cC _).mono ?_); rintro e wx ⟨rfl, hbx⟩)))
                have hbx : Below w2.heap.size w2 wx := by first | exact And.left (by assumption) | exact below_then (And.left (by assumption)) (by assumption)
                have hbw := Lib.hid (hb3.out.trans (hbx.mono hb3.out.size))
                have halw := Lib.hid (hal3.out.trans (hbx.mono hZ2))
                have ax := Lib.hid (hcp.out wx hbx)
                obtain ⟨x0, x1, x2, x3⟩ := pc_cells ax.out
                have hZx : Z ≤ wx.heap.size := Nat.le_trans hZ2 hbx.size
                clear hSS' hcp hb3 hal3 a2' a0 hb1 hal hE hbx
                try have hO17 : Hid (16 ≤ M) := Lib.hid (by omega)
                try clear hO16
                cases E with
                | true =>
                  have hownx := hown'.out.kept hbw.out
                  rw [← hM'.out, ← hN] at hownx
                  have hownp := hownx.pop
                  rw [hN] at hownp
                  have hownp' := Lib.hid hownp
                  have hopn2 := Lib.hid hopn'.out.pop.1
                  have hkd : kd = 2 := (of_decide_eq_true hEE'.out).1
                  have hnext := Lib.hid (show rgt (decide (k + 1 = 0)) (was ps (k + 1)) (stk os2) (ps.drop (k + 1)) = R from by
                    rw [was_next hp'.out, ← hr'.out, rgt_end hopn'.out hEE'.out, hkd]; rfl)
                  have hNc : (N : Int) ≤ (c2 : Int) := by omega
                  have hNc2 : N ≤ c2 := by omega
                  clear hownx hownp
                  go_wp2
                  go_roundw
                  case rel => exact ⟨k + 1, os2, by go_num, by omega, hownp'.out, by omega, hopn2.out, by omega, halw.out, hnext.out⟩
                  case measure => simp [RowKit.intOf]; omega
                | false =>
                  have hTx := (gw_below hG'.out (show Below w.heap.size w wx by rw [hZ'.out]; exact halw.out)).tabs
                  have cI := isChars_any kd sp a1 a2 wx (by omega) hTx
                  obtain ⟨T, hT⟩ : ∃ T, charsB kd sp a1 a2 = T := ⟨_, rfl⟩
                  rw [hT] at cI
                  have hT' := Lib.hid hT
                  obtain ⟨K, hK⟩ : ∃ K, k - 1 = K := ⟨_, rfl⟩
                  have hK1 : (k : Int) - 1 = (K : Int) := by omega
                  have hKn : K < n := by omega
                  have hq : ps[K]? = some (ps[K]'(by have := hn'.out; omega)) := List.getElem?_eq_getElem _
                  obtain ⟨qq, hqe⟩ : ∃ qq, ps[K]'(by have := hn'.out; omega) = qq := ⟨_, rfl⟩
                  rw [hqe] at hq
                  have hwas : was ps k = decide (qq.kind = 3) := by
                    unfold was
                    rw [hK, hq]
                    simp [hkp]
                  have hwas' := Lib.hid hwas
                  obtain ⟨kq, hkq⟩ : ∃ kq, qq.kind = kq := ⟨_, rfl⟩
                  have hcK := Lib.hid (fun W (hW : Below wx.heap.size wx W) => (show W.cell? ⟨b, off + K * 4, none⟩ = some (.int .i64 kq) from by
                    rw [← hkq]
                    exact ((hP'.out K qq hq).kept hAb (show Below w.heap.size w W by rw [hZ'.out]; exact halw.out.trans (hW.mono hZx))).1))
                  have hkq' := Lib.hid hkq
                  clear hT hTx hqe hq hwas hK hkq
                  go_wp2_with fail
                  go_at_call 21
                  refine cI.mono ?_
                  rintro e wy ⟨rfl, hby⟩
                  clear cI
                  have hky := hcK.out wy hby
                  have haly := Lib.hid (halw.out.trans (hby.mono hZx))
                  have hby' := Lib.hid (hbw.out.trans (hby.mono hbw.out.size))
                  clear hby
                  by_cases hgo : T = true ∧ kq ≠ 3
                  · obtain ⟨rfl, hk3⟩ := hgo
                    have hk3' : (kq == 3) = false := beq_eq_false_iff_ne.2 hk3
                    have hTo := hT'.out
                    unfold charsB at hTo
                    rw [Bool.and_eq_true, decide_eq_true_eq] at hTo
                    obtain ⟨hkd, htx⟩ := hTo
                    have hnext := Lib.hid (show rgt (decide (k + 1 = 0)) (was ps (k + 1)) (stk (os2 ++ [q])) (ps.drop (k + 1)) = R from by
                      have hr2 := hr'.out
                      rw [decide_eq_false (by omega), hwas'.out, hkq'.out, decide_eq_false hk3, rgt_3 (fun e => by
                        have := (stk_nil _).1 e
                        simp at this) hkd htx] at hr2
                      rw [was_next hp'.out, ← hr2, hkd]; rfl)
                    have hownx := Lib.hid (hown'.out.kept hby'.out)
                    clear hkd htx
                    go_wp2
                    go_roundw
                    case rel => exact ⟨k + 1, os2 ++ [q], by go_num, by omega, hownx.out, by simp; omega, hopn'.out, by omega, haly.out, hnext.out⟩
                    case measure => simp [RowKit.intOf]; omega
                  · have hRf : R = false := hstop.out (fun g1 g2 => by
                        have := hO'.out
                        unfold openB at this
                        rw [g2, Bool.and_true] at this
                        have h1 : decide (kd = 1) = true := decide_eq_true g1
                        rw [h1] at this
                        first
                          | (have h17 := hO17.out; have h18 := hM'.out; rw [List.length_append, List.length_singleton, hN]; omega)
                          | (cases this; done)) (fun s q' e => by
                        obtain ⟨_, e2⟩ := List.append_inj' e rfl
                        injection e2 with e2 _
                        subst e2
                        exact hEE'.out) (fun g1 g2 g3 g4 => by
                        rw [hwas'.out, hkq'.out]
                        refine decide_eq_true (Classical.byContradiction fun h => hgo ⟨?_, h⟩)
                        rw [← hT'.out]
                        unfold charsB
                        rw [g2, Bool.and_true]
                        exact decide_eq_true g1) (fun h => by
                        have := of_decide_eq_true h
                        omega)
                    have hCf : C = 70 := by rw [← hC'.out, hRf]; rfl
                    subst hCf
                    have hgo2 : T = false ∨ (T = true ∧ (kq == 3) = true) := by
                      cases T
                      · exact .inl rfl
                      · exact .inr ⟨rfl, beq_iff_eq.2 (Classical.byContradiction fun h => hgo ⟨rfl, h⟩)⟩
                    clear hRf hgo
                    rcases hgo2 with rfl | ⟨rfl, hk3⟩
                    all_goals
                      go_wp2
                      go_ret
                      exact ⟨rfl, by rw [hZ'.out]; exact haly.out⟩
    · have hkn : k = n := by omega
      have hd0 : ps.drop k = [] := List.drop_eq_nil_of_le (by have := hn'.out; omega)
      rw [hd0] at hr
      have hBw : Below w.heap.size w wr := by rw [hZ'.out]; exact hB'.out
      by_cases hn0 : n = 0
      · have hRf : R = false := by
          rw [← hr, hkn, hn0]; rfl
        have hCf : C = 70 := by rw [← hC'.out, hRf]; rfl
        have hz : ((n : Int) == 0) = true := beq_iff_eq.2 (by omega)
        have hzn : (n == 0) = true := beq_iff_eq.2 hn0
        subst hCf
        clear hRf hr hkn hd0 hn0
        go_wp2
        go_ret
        exact ⟨rfl, hBw⟩
      · have hz : ((n : Int) == 0) = false := beq_eq_false_iff_ne.2 (by omega)
        have hzn : (n == 0) = false := beq_eq_false_iff_ne.2 hn0
        have hRe : (stk os).isEmpty = R := by
          rw [← hr, decide_eq_false (by omega)]; rfl
        by_cases ho0 : os.length = 0
        · have hRt : R = true := by
            rw [← hRe, List.eq_nil_of_length_eq_zero ho0]; rfl
          have hCf : C = 0 := by rw [← hC'.out, hRt]; rfl
          subst hCf
          have hl0 : ¬ (0 : Int) < (os.length : Int) := by omega
          clear hRt hr hkn hd0 hn0 hRe
          go_wp2
          go_ret
          exact ⟨rfl, hBw⟩
        · have hRt : R = false := by
            rw [← hRe]
            cases hx : stk os with
            | nil => exact absurd (by rw [(stk_nil os).1 hx]; rfl) ho0
            | cons c r => rfl
          have hCf : C = 70 := by rw [← hC'.out, hRt]; rfl
          subst hCf
          have hl0 : (0 : Int) < (os.length : Int) := by omega
          clear hRt hr hkn hd0 hn0 hRe
          go_wp2
          go_ret
          exact ⟨rfl, hBw⟩
end Go.Proofs.YtjeagjleolmibaaGreatDoor.Xm
