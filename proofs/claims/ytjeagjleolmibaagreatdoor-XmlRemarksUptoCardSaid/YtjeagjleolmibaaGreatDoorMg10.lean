import Derived.Test.YtjeagjleolmibaaGreatDoorMg9
import Derived.Deep.RegionHeld3

/-
  WALKS OF strings.IndexAny, ContainsAny, at every string and at whatever two bytes or more below 128 are looked for (at most 64).
-/
set_option linter.unusedVariables false
namespace Go.Proofs.YtjeagjleolmibaaGreatDoor.An
open Go.Lib Go.RowKit

theorem zero256 : ∀ w, (zeroValue 99).run Tryz.prog w = .ok (.agg (Array.replicate 256 (.bool false))) w :=
  (zero_of_info (show (Tryz.prog.info? 99).map (fun i => (i.zero, i.size)) = some (some (.agg (Array.replicate 256 (.bool false))), 256) by kernel_rfl)).1

def IxP (l cs : List UInt8) (e : Ending) : Prop := e = .returned (.int .i64 (Lib.indexAny l cs))

set_option maxHeartbeats 2000000 in
set_option maxRecDepth 1000000 in
theorem indexAny_short (s cs : ByteArray) (ha : Asc cs) (h2 : 2 ≤ cs.size) (hbig : cs.size ≤ 64) (w : World) (h8 : s.size ≤ 8) :
    Calls Tryz.prog 94 #[.string s, .string cs] w fun e w' => IxP s.data.toList cs.data.toList e ∧ Below w.heap.size w w' := by
  have cU : ∀ W, Calls Tryz.prog 110 #[.int .i64 (s.size : Int)] W fun e w' => e = .returned (.bool false) ∧ W = w' := fun W => by
    refine (Tryz.strings_shouldUseASCIISet (s.size : Int) W).mono ?_
    rintro e w' ⟨rfl, rfl⟩
    rw [show decide ((8 : Int) < (s.size : Int)) = false from decide_eq_false (by omega)]
    exact ⟨rfl, rfl⟩
  have hcn : cs.toList.isEmpty = false := by
    rw [Lib.toList_data]
    cases hd : cs.data.toList with
    | nil => have := Lib.size_eq cs; rw [hd, List.length_nil] at this; omega
    | cons _ _ => rfl
  have hc1 : ((cs.size : Int) == 1) = false := beq_eq_false_iff_ne.2 (by omega)
  have hc2 : (cs.size == 1) = false := beq_eq_false_iff_ne.2 (by omega)
  go_enter Tryz.func94, Tryz.ntmps94
  go_wp2_with (go_at_call 110; refine (cU _).mono ?_; rintro e w' ⟨rfl, rfl⟩)
  clear cU
  go_loopw [] (fun wr => ∃ pos : Nat, pos ≤ s.size ∧ wr.heap[w.heap.size]? = some (.stringIter s pos) ∧ Below w.heap.size w wr ∧ Lib.NoAny s.data.toList cs.data.toList pos) (fun wr => s.size - wr.iterPos w.heap.size)
  case atStart => exact ⟨0, Nat.zero_le _, World.iter_heap w s 0, (Below.refl _ _).alloc (Nat.le_refl _) _, fun j b hj _ => absurd hj (Nat.not_lt_zero _)⟩
  case round =>
    obtain ⟨pos, hpos, hit, hbw, hen⟩ := hrel
    have hsz : w.heap.size < wr.heap.size := (Array.getElem?_eq_some_iff.1 hit).1
    have hen' := Lib.hid hen
    clear hen
    by_cases hp : pos < s.size
    · have hne : s.data.toList.drop pos ≠ [] := fun h => by
        have := List.drop_eq_nil_iff.1 h
        rw [← Lib.size_eq] at this
        omega
      obtain ⟨f1, f2, f3⟩ := dec_facts _ hne
      rw [decodeL_drop] at f1 f2 f3
      rw [List.length_drop, ← Lib.size_eq] at f2
      have hnx : ∀ ty, (Instr.next (.pointer (some ⟨w.heap.size, 0, none⟩)) true ty).run Tryz.prog wr = _ := fun ty => Lib.run_next_any_at wr w.heap.size s pos ty hit hp
      obtain ⟨⟨r, n⟩, hd⟩ : ∃ p, Utf8.decode s pos = p := ⟨_, rfl⟩
      rw [hd] at f1 f2 f3
      simp only [hd] at hnx
      have hit2 := Lib.iterAt_heap wr w.heap.size s pos (pos + n) hit
      have hbw2 := Lib.below_iterAt hbw (k := w.heap.size) (Nat.le_refl _) s (pos + n)
      have hsz2 : w.heap.size < (wr.iterAt w.heap.size s (pos + n)).heap.size := by rw [Lib.iterAt_size]; exact hsz
      have hxg : s.data.toList[pos]? = some (s[pos]'hp) := Lib.data_getElem? s pos hp
      have hx0 : ((s.data.toList.drop pos).getD 0 0).toNat = (s[pos]'hp).toNat := by
        rw [List.getD_eq_getElem?_getD, List.getElem?_drop, Nat.add_zero, hxg]; rfl
      have cR0 := fun W => indexRune_at cs ha hbig r W
      clear hd hne
      cases hc : (if r < 128 then cs.data.toList.contains (UInt8.ofNat r) else false)
      · have hnext : Lib.NoAny s.data.toList cs.data.toList (pos + n) := by
          rcases f3 with ⟨g1, g2, g3⟩ | ⟨g1, g2⟩
          · rw [hx0] at g3
            have g2 : n = 1 := g2
            have g3 : (s[pos]'hp).toNat = r := g3
            rw [if_pos g1] at hc
            rw [g2]
            exact NoAny.one hen'.out hxg (by rw [← hc, ← g3]; simp)
          · exact NoAny.more hen'.out ha g2
        have hnext' := Lib.hid hnext
        have cR : ∀ W, Calls Tryz.prog 98 #[.string cs, .int .i32 (r : Int)] W fun e w' => (∃ i : Int, e = .returned (.int .i64 i) ∧ i < 0) ∧ Below W.heap.size W w' := fun W => (cR0 W).mono fun e w' ⟨⟨i, h1, h2⟩, hb⟩ => ⟨⟨i, h1, by
          rw [hc] at h2
          have := of_decide_eq_false h2.symm
          omega⟩, hb⟩
        have hit4 := Lib.hid hit
        clear hnext f3 hx0 hxg hc hit cR0
        go_wp2_with (go_at_call 98; refine (cR _).mono ?_; rintro e w3 ⟨⟨i, rfl, hi⟩, hb3⟩)
        have hit3 : w3.heap[w.heap.size]? = some (.stringIter s (pos + n)) := (hb3.block _ hsz2).trans hit2
        go_roundw
        case rel => exact ⟨pos + n, by omega, hit3, hbw2.trans (hb3.mono (by omega)), hnext'.out⟩
        case measure =>
          simp only [World.iterPos, hit3, hit4.out]
          omega
      · have hfin : IxP s.data.toList cs.data.toList (.returned (.int .i64 (pos : Int))) := by
          rcases f3 with ⟨g1, g2, g3⟩ | ⟨g1, _⟩
          · rw [hx0] at g3
            have g3 : (s[pos]'hp).toNat = r := g3
            rw [if_pos g1] at hc
            unfold IxP
            rw [Lib.indexAny_hit hen'.out hxg (by rw [← hc, ← g3]; simp)]
          · have g1 : 128 ≤ r := g1
            rw [if_neg (by omega)] at hc
            cases hc
        have hfin' := Lib.hid hfin
        have cR : ∀ W, Calls Tryz.prog 98 #[.string cs, .int .i32 (r : Int)] W fun e w' => (∃ i : Int, e = .returned (.int .i64 i) ∧ 0 ≤ i) ∧ Below W.heap.size W w' := fun W => (cR0 W).mono fun e w' ⟨⟨i, h1, h2⟩, hb⟩ => ⟨⟨i, h1, by
          rw [hc] at h2
          exact of_decide_eq_true h2.symm⟩, hb⟩
        clear hfin f3 hx0 hxg hc f1 f2 hit cR0
        go_wp2_with (go_at_call 98; refine (cR _).mono ?_; rintro e w3 ⟨⟨i, rfl, hi⟩, hb3⟩)
        go_ret
        exact ⟨hfin'.out, hbw2.trans (hb3.mono (by omega))⟩
    · have hfin : IxP s.data.toList cs.data.toList (.returned (.int .i64 (-1))) := by
        have h := hen'.out
        unfold IxP
        rw [Lib.indexAny_none (fun j b hj hb => h j b (by rw [← Lib.size_eq] at hj; omega) hb)]
      have hfin' := Lib.hid hfin
      have hnx : ∀ ty, (Instr.next (.pointer (some ⟨w.heap.size, 0, none⟩)) true ty).run Tryz.prog wr = _ := fun ty => Lib.run_next_end_at wr w.heap.size s pos ty hit hp
      clear hfin
      go_wp2
      go_ret
      exact ⟨hfin'.out, hbw⟩

/-- the set of the bytes in a new block -/
def setW (cs : List UInt8) (w : World) : World := (w.alloc (.cells (Lib.setCells cs) 99)).alloc (.cells (Lib.setCells cs) 99)
theorem setW_cell (cs : List UInt8) (w : World) (x : UInt8) : (setW cs w).cell? ⟨w.heap.size + 1, x.toNat, none⟩ = some (.bool (cs.contains x)) := by
  unfold setW
  rw [World.cell?_alloc_at _ _ _ _ (by simp), Lib.setCells_at]
theorem setW_below (cs : List UInt8) (w : World) : Below w.heap.size w (setW cs w) := ((Below.refl _ _).alloc (Nat.le_refl _) _).alloc (by simp) _

set_option maxHeartbeats 4000000 in
set_option maxRecDepth 1000000 in
/-- a string of more than eight bytes: the set is made, each byte is looked up in it -/
theorem indexAny_long (s cs : ByteArray) (ha : Asc cs) (h2 : 2 ≤ cs.size) (hbig : cs.size ≤ 64) (w : World) (h8 : 8 < s.size) (hs : s.size ≤ 9223372036854775807) :
    Calls Tryz.prog 94 #[.string s, .string cs] w fun e w' => IxP s.data.toList cs.data.toList e ∧ Below w.heap.size w w' := by
  have hM := Tryz.strings_makeASCIISet zero256 cs w (by omega) ha
  have cU : ∀ W, Calls Tryz.prog 110 #[.int .i64 (s.size : Int)] W fun e w' => e = .returned (.bool true) ∧ W = w' := fun W => by
    refine (Tryz.strings_shouldUseASCIISet (s.size : Int) W).mono ?_
    rintro e w' ⟨rfl, rfl⟩
    rw [show decide ((8 : Int) < (s.size : Int)) = true from decide_eq_true (by omega)]
    exact ⟨rfl, rfl⟩
  have hsc : (storeCells ⟨w.heap.size + 1, 0, none⟩ (Lib.setCells cs.data.toList).toList 0).run Tryz.prog ((w.alloc (.cells (Lib.setCells cs.data.toList) 99)).alloc (.cells (Array.replicate 256 (.bool false)) 99)) = .ok () (setW cs.data.toList w) := by
    have := run_storeCells_new (P := Tryz.prog) (w.alloc (.cells (Lib.setCells cs.data.toList) 99)) 99 (Array.replicate 256 (.bool false)) (Lib.setCells cs.data.toList) (by rw [Lib.setCells_size]; kernel_rfl) (by rw [Lib.setCells_size, Array.size_replicate]) (Lib.setCells_one _)
    simpa [setW] using this
  have hz : ∀ w, (zeroValue 99).run Tryz.prog w = _ := zero256
  have hcn : cs.toList.isEmpty = false := by
    rw [Lib.toList_data]
    cases hd : cs.data.toList with
    | nil => have := Lib.size_eq cs; rw [hd, List.length_nil] at this; omega
    | cons _ _ => rfl
  have hc1 : ((cs.size : Int) == 1) = false := beq_eq_false_iff_ne.2 (by omega)
  have hc2 : (cs.size == 1) = false := beq_eq_false_iff_ne.2 (by omega)
  have hss := Lib.setCells_size cs.data.toList
  have ha' := Lib.hid ha
  clear ha
  go_enter Tryz.func94, Tryz.ntmps94
  go_wp2_with (first
    | (go_at_call 110; refine (cU _).mono ?_; rintro e w' ⟨rfl, rfl⟩)
    | (go_at_call 66; refine hM.mono ?_; rintro e w' ⟨rfl, hw⟩; rw [hw]))
  clear hM hsc cU hss
  have hbw := setW_below cs.data.toList w
  have hcell := Lib.hid (setW_cell cs.data.toList w)
  generalize setW cs.data.toList w = w2 at hbw hcell ⊢
  go_loop [8] (fun s8 => ∃ i : Nat, s8 = .int .i64 (i : Int) ∧ i ≤ s.size ∧ Lib.NoAny s.data.toList cs.data.toList i) (fun s8 => s.size - (RowKit.intOf s8).toNat)
  case atStart => exact ⟨0, rfl, Nat.zero_le _, fun j b hj _ => absurd hj (Nat.not_lt_zero _)⟩
  case round =>
    obtain ⟨i, rfl, hi, hen⟩ := hrel
    have hen' := Lib.hid hen
    clear hen
    by_cases hlt : i < s.size
    · have hxg : s.data.toList[i]? = some (s[i]'hlt) := Lib.data_getElem? s i hlt
      have cC : ∀ v, cs.data.toList.contains (s[i]'hlt) = v → Calls Tryz.prog 84 #[.pointer (some ⟨w.heap.size + 1, 0, none⟩), .int .u8 ((s[i]'hlt).toNat : Int)] w2 fun e w' => e = .returned (.bool v) ∧ w2 = w' := fun v hv => by
        have hc := hcell.out (s[i]'hlt)
        rw [hv] at hc
        refine (Tryz.asciiSet_contains (w.heap.size + 1) (s[i]'hlt) v w2 hc).mono ?_
        rintro e w' ⟨rfl, rfl⟩
        exact ⟨rfl, rfl⟩
      cases hx : cs.data.toList.contains (s[i]'hlt)
      · have hn := Lib.hid (NoAny.one hen'.out hxg hx)
        have cC1 := cC false hx
        clear hx hxg cC
        go_wp2_with (go_at_call 84; refine cC1.mono ?_; rintro e w' ⟨rfl, rfl⟩)
        go_round
        case rel => exact ⟨i + 1, by go_num, by omega, hn.out⟩
        case measure => simp [RowKit.intOf]; omega
      · have hfin : IxP s.data.toList cs.data.toList (.returned (.int .i64 (i : Int))) := by unfold IxP; rw [Lib.indexAny_hit hen'.out hxg hx]
        have hfin' := Lib.hid hfin
        have cC1 := cC true hx
        clear hfin hx hxg cC
        go_wp2_with (go_at_call 84; refine cC1.mono ?_; rintro e w' ⟨rfl, rfl⟩)
        go_ret
        exact ⟨hfin'.out, hbw⟩
    · have hfin : IxP s.data.toList cs.data.toList (.returned (.int .i64 (-1))) := by
        have h := hen'.out
        unfold IxP
        rw [Lib.indexAny_none (fun j b hj hb => h j b (by rw [← Lib.size_eq] at hj; omega) hb)]
      have hfin' := Lib.hid hfin
      clear hfin
      go_wp2
      go_ret
      exact ⟨hfin'.out, hbw⟩

theorem indexAny_all (s cs : ByteArray) (ha : Asc cs) (h2 : 2 ≤ cs.size) (hbig : cs.size ≤ 64) (w : World) (hs : s.size ≤ 9223372036854775807) :
    Calls Tryz.prog 94 #[.string s, .string cs] w fun e w' => e = .returned (.int .i64 (Lib.indexAny s.data.toList cs.data.toList)) ∧ Below w.heap.size w w' := by
  by_cases h8 : s.size ≤ 8
  · exact indexAny_short s cs ha h2 hbig w h8
  · exact indexAny_long s cs ha h2 hbig w (by omega) hs

theorem contains_any (l cs : List UInt8) : Lib.containsAny l cs = l.any fun b => cs.contains b := by
  unfold Lib.containsAny
  induction l with
  | nil => rfl
  | cons b l ih =>
    have hge := Lib.indexAny_ge cs l
    rw [Lib.indexAny, List.any_cons, ← ih]
    cases hb : cs.contains b
    · simp only [Bool.false_or, Bool.false_eq_true, if_false]
      by_cases h : Lib.indexAny l cs = -1
      · simp [h]
      · have h1 : (Lib.indexAny l cs == -1) = false := by simpa using h
        simp only [h1, Bool.false_eq_true, if_false]
        rw [decide_eq_true (show (0 : Int) ≤ Lib.indexAny l cs + 1 by omega), decide_eq_true (show (0 : Int) ≤ Lib.indexAny l cs by omega)]
    · simp
end Go.Proofs.YtjeagjleolmibaaGreatDoor.An

/-
  WALKS OF THE PROGRAM's READER OF LAYER xml: aside, characters.
-/
set_option linter.unusedVariables false
namespace Go.Proofs.YtjeagjleolmibaaGreatDoor.Xm
open Go.Lib Go.RowKit

/-- how long what isn't read yet is -/
def restSize (b : Nat) (w : World) : Nat := match w.cell? ⟨b, 0, none⟩ with
  | some (.string s) => s.size
  | _ => 0
theorem Bef.size {w0 w : World} {b : Nat} {r : ByteArray} {l : Row} {ps : Pq} (h : Bef w0 b r l ps w) : restSize b w = r.size := by unfold restSize; rw [h.cell.1]
/-- outside the element: blanks and remarks -/
def AsideP (w0 : World) (b : Nat) (σ : St) (r : ByteArray) (l : Row) (ps : Pq) (e : Ending) (w' : World) : Prop :=
  (∃ r' : ByteArray, ans σ = ans { σ with rest := r'.data.toList } ∧ r'.data.toList.dropWhile blk = r'.data.toList ∧ remarkS.isPrefixOf r'.data.toList = false ∧ r'.size ≤ r.size ∧ e = .returned (.tuple #[]) ∧ Bef w0 b r' l ps w') ∨
  (ans σ = none ∧ e = gone ∧ Below w0.heap.size w0 w')
theorem aside_blank {σ : St} (hs : σ.stack = []) {x x' : Row} (h : x' = x.dropWhile blk) (ha : ans σ = ans { σ with rest := x }) : ans σ = ans { σ with rest := x' } := by
  rw [ha, ans_blanks (σ := { σ with rest := x }) hs, h]
theorem aside_remark {σ : St} {x t v : Row} (hx : x = remarkS ++ t) (hv : Xm.remark t = some v) (ha : ans σ = ans { σ with rest := x }) : ans σ = ans { σ with rest := v } := by
  rw [ha, ans_remark (σ := { σ with rest := x }) hx, hv]; rfl
theorem aside_none {σ : St} {x t : Row} (hx : x = remarkS ++ t) (hv : Xm.remark t = none) (ha : ans σ = ans { σ with rest := x }) : ans σ = none := by
  rw [ha, ans_remark (σ := { σ with rest := x }) hx, hv]; rfl
theorem dw_same {x x' : ByteArray} (h : x'.data.toList = x.data.toList.dropWhile blk) (hn : ¬ x'.size < x.size) : x' = x ∧ x.data.toList.dropWhile blk = x.data.toList := by
  have hl : (x.data.toList.dropWhile blk).length = x.data.toList.length := by
    have h1 := dropWhile_len blk x.data.toList
    rw [← h] at h1 ⊢
    rw [← Lib.size_eq, ← Lib.size_eq] at *
    omega
  have e := (List.dropWhile_sublist blk (l := x.data.toList)).eq_of_length hl
  exact ⟨data_is (by rw [h, e]), e⟩
theorem remark_size {x r' : ByteArray} {t : Row} (hx : x.data.toList = remarkS ++ t) (hv : Xm.remark t = some r'.data.toList) : r'.size < x.size := by
  have h1 := remark_len hv
  have h2 := congrArg List.length hx
  rw [List.length_append] at h2
  rw [← Lib.size_eq] at h1 h2
  have : remarkS.length = 4 := rfl
  omega
set_option maxHeartbeats 2000000 in
set_option maxRecDepth 100000 in
theorem aside_any {w0 w : World} (hG : Gw w0) {b : Nat} {r : ByteArray} {l : Row} {ps : Pq} (h : Bef w0 b r l ps w) (hr : r.size ≤ 65536) {σ : St} (hs : σ.stack = []) (hrest : σ.rest = r.data.toList) :
    Calls Tryz.prog 43 #[.pointer (some ⟨b, 0, none⟩)] w fun e w' => AsideP w0 b σ r l ps e w' ∧ KeptR w w' := by
  have h' := Lib.hid h
  have hst : Hid (ans σ = ans { σ with rest := r.data.toList }) := Lib.hid (by rw [← hrest])
  clear h hrest
  go_enter Tryz.func43, Tryz.ntmps43
  go_wp2
  go_loopw [] (fun wr => ∃ x : ByteArray, Bef w0 b x l ps wr ∧ KeptR w wr ∧ ans σ = ans { σ with rest := x.data.toList } ∧ x.size ≤ r.size) (fun wr => restSize b wr)
  case atStart => exact ⟨r, h'.out, KeptR.refl _, hst.out, Nat.le_refl _⟩
  case round =>
    obtain ⟨x, hB, hk, ha, hx⟩ := hrel
    have hsz := hB.size
    have cB := blanks_any hB
    have hk' := Lib.hid hk
    have ha' := Lib.hid ha
    clear hk ha hB
    go_wp2_with fail
    go_at_call 55
    with_reducible refine cB.mono ?_
    rintro e w3 ⟨⟨x1, hx1, rfl, h3⟩, hk3⟩
    clear cB
    have hk3' := Lib.hid (hk'.out.trans hk3)
    clear hk3 hk'
    by_cases hd : x1.size < x.size
    · have hd' : decide (x1.size < x.size) = true := decide_eq_true hd
      rw [hd']
      have hrel2 := Lib.hid (show ∃ x : ByteArray, Bef w0 b x l ps w3 ∧ KeptR w w3 ∧ ans σ = ans { σ with rest := x.data.toList } ∧ x.size ≤ r.size from ⟨x1, h3, hk3'.out, aside_blank hs hx1 ha'.out, by omega⟩)
      have hm := Lib.hid (show restSize b w3 < restSize b wr by rw [h3.size, hsz]; exact hd)
      clear hx1 h3 ha' hk3' hd'
      go_wp2
      go_roundw
      case rel => exact hrel2.out
      case measure => exact hm.out
    · have hd' : decide (x1.size < x.size) = false := decide_eq_false hd
      rw [hd']
      obtain ⟨e1, e2⟩ := dw_same hx1 hd
      subst e1
      have e2' := Lib.hid e2
      have cR := remark_any hG h3 (by omega)
      clear hx1 h3 e2 hd' hd
      go_wp2_with fail
      go_at_call 56
      with_reducible refine cR.mono ?_
      rintro e w4 ⟨hq, hk4⟩
      clear cR
      have hk4' := Lib.hid (hk3'.out.trans hk4)
      clear hk4 hk3'
      rcases hq with ⟨t, r', hy, hv, rfl, h4⟩ | ⟨hn, rfl, h4⟩ | ⟨t, hy, hv, rfl, h4⟩
      · have hlt := remark_size hy hv
        have hrel2 := Lib.hid (show ∃ x : ByteArray, Bef w0 b x l ps w4 ∧ KeptR w w4 ∧ ans σ = ans { σ with rest := x.data.toList } ∧ x.size ≤ r.size from ⟨r', h4, hk4'.out, aside_remark hy hv ha'.out, by omega⟩)
        have hm := Lib.hid (show restSize b w4 < restSize b wr by rw [h4.size, hsz]; exact hlt)
        clear hy hv h4 ha' hk4' hlt
        go_wp2
        go_roundw
        case rel => exact hrel2.out
        case measure => exact hm.out
      · have hfin := Lib.hid (show AsideP w0 b σ r l ps (.returned (.tuple #[])) w4 from .inl ⟨x1, ha'.out, e2'.out, hn, hx, rfl, h4⟩)
        clear hn h4 ha'
        go_wp2
        go_end0
        exact ⟨hfin.out, hk4'.out⟩
      · have hfin := Lib.hid (show AsideP w0 b σ r l ps gone w4 from .inr ⟨aside_none hy hv ha'.out, rfl, h4⟩)
        clear hy hv h4 ha'
        unfold gone at hfin ⊢
        go_wp2
        exact ⟨rfl, hfin.out, hk4'.out⟩

/-! ### characters -/
theorem idx_any (cs : Row) : ∀ (l : Row), (Lib.indexAny l cs = -1 ∧ ∀ c ∈ l, cs.contains c = false) ∨ ∃ k : Nat, Lib.indexAny l cs = k ∧ k < l.length ∧ (∀ c ∈ l.take k, cs.contains c = false) ∧ ∃ c t, l.drop k = c :: t ∧ cs.contains c = true
  | [] => .inl ⟨rfl, fun c hc => by cases hc⟩
  | b :: l => by
    rw [Lib.indexAny]
    cases hb : cs.contains b with
    | true =>
      right
      exact ⟨0, by simp, by simp, fun c hc => (by simp at hc), b, l, rfl, hb⟩
    | false =>
      simp only [Bool.false_eq_true, if_false]
      rcases idx_any cs l with ⟨h1, h2⟩ | ⟨k, h1, h2, h3, c, t, h4, h5⟩
      · left
        rw [h1]
        refine ⟨rfl, fun c hc => ?_⟩
        rcases List.mem_cons.1 hc with rfl | hc
        · exact hb
        · exact h2 c hc
      · right
        refine ⟨k + 1, ?_, by rw [List.length_cons]; omega, fun c hc => ?_, c, t, by rw [List.drop_succ_cons]; exact h4, h5⟩
        · rw [h1, if_neg (by simp)]; rfl
        · rw [List.take_succ_cons] at hc
          rcases List.mem_cons.1 hc with rfl | hc
          · exact hb
          · exact h3 c hc
def markS : ByteArray := ⟨#[60, 38]⟩
theorem mark_in (c : UInt8) : ([60, 38] : Row).contains c = decide (c = 60 ∨ c = 38) := Ch.byte_all (P := fun c => ([60, 38] : Row).contains c = decide (c = 60 ∨ c = 38)) (by decide +kernel) c
theorem mark_no {c : UInt8} (h : ([60, 38] : Row).contains c = false) : c ≠ 60 ∧ c ≠ 38 := by
  rw [mark_in] at h
  have := of_decide_eq_false h
  exact ⟨fun e => this (.inl e), fun e => this (.inr e)⟩
theorem mark_yes {c : UInt8} (h : ([60, 38] : Row).contains c = true) : c = 60 ∨ c = 38 := by
  rw [mark_in] at h
  exact of_decide_eq_true h
theorem markS_asc : An.Asc markS := by
  intro j b h
  have hm := List.mem_of_getElem? h
  have e : markS.data.toList = [60, 38] := rfl
  rw [e] at hm
  simp at hm
  rcases hm with rfl | rfl <;> decide
theorem rd_cell {B b : Nat} {r : ByteArray} {l : Row} {ps : Pq} {w : World} (h : Rd B b r l ps w) : w.cell? ⟨b, 0, none⟩ = some (.string r) := by
  obtain ⟨p, v, h⟩ := h
  exact h.cell.1
/-- characters up to the next mark -/
def CharP (w0 : World) (b : Nat) (r : ByteArray) (l : Row) (ps : Pq) (e : Ending) (w' : World) : Prop :=
  (∃ a r' : ByteArray, r.data.toList = a.data.toList ++ r'.data.toList ∧ (∀ c ∈ a.data.toList, c ≠ 60 ∧ c ≠ 38) ∧ (∃ c t, r'.data.toList = c :: t ∧ (c = 60 ∨ c = 38)) ∧ e = .returned (.bool (decide (0 < a.size))) ∧ Bef w0 b r' (l ++ a.data.toList) ps w') ∨
  ((∀ c ∈ r.data.toList, c ≠ 60 ∧ c ≠ 38) ∧ e = gone ∧ Below w0.heap.size w0 w')
set_option maxHeartbeats 2000000 in
set_option maxRecDepth 100000 in
theorem characters_any {w0 w : World} {b : Nat} {r : ByteArray} {l : Row} {ps : Pq} (h : Bef w0 b r l ps w) (hr : r.size ≤ 65536) (hl : l.length ≤ 1048576) :
    Calls Tryz.prog 82 #[.pointer (some ⟨b, 0, none⟩)] w fun e w' => CharP w0 b r l ps e w' ∧ KeptR w w' := by
  obtain ⟨c0, f0⟩ := h.cell
  have cI := An.indexAny_all r markS markS_asc (by decide) (by decide) w (by omega)
  have hkp := Lib.hid (fun (W : World) (hW : Below w.heap.size w W) => h.kept hW)
  clear h
  rcases idx_any [60, 38] r.data.toList with ⟨h1, h2⟩ | ⟨k, h1, h2, h3, c, t, h4, h5⟩
  · rw [show Lib.indexAny r.data.toList markS.data.toList = -1 from h1] at cI
    have hno : Hid (∀ c ∈ r.data.toList, c ≠ 60 ∧ c ≠ 38) := Lib.hid fun c hc => mark_no (h2 c hc)
    clear h1 h2
    go_enter Tryz.func82, Tryz.ntmps82
    go_wp2_with fail
    go_at_call 94
    refine cI.mono ?_
    rintro e w3 ⟨rfl, hb3⟩
    clear cI
    have hk3 := Lib.hid (KeptR.of_below hb3)
    have h3 := hkp.out w3 hb3
    have hfin := Lib.hid (show CharP w0 b r l ps gone w3 from .inr ⟨hno.out, rfl, h3.bel⟩)
    have cG := giveUp_any w3
    clear h3 hkp hb3
    unfold gone at hfin cG
    go_wp2_with fail
    go_at_call 45
    with_reducible refine cG.mono ?_
    rintro e w5 ⟨rfl, rfl⟩
    go_wp2
    exact ⟨rfl, hfin.out, hk3.out⟩
  · rw [show Lib.indexAny r.data.toList markS.data.toList = k from h1] at cI
    have hk : k < r.size := by rw [Lib.size_eq]; exact h2
    obtain ⟨A, hA⟩ : ∃ A, r.extract 0 k = A := ⟨_, rfl⟩
    obtain ⟨R, hR⟩ : ∃ R, r.extract k r.size = R := ⟨_, rfl⟩
    have e1 : A.data.toList = r.data.toList.take k := by rw [← hA, Lib.extract_data]; rfl
    have e2 : R.data.toList = r.data.toList.drop k := by rw [← hR]; exact Lib.extract_to_end r k
    have hAs : A.size = k := by rw [Lib.size_eq, e1, List.length_take, ← Lib.size_eq]; omega
    have hsplit : Hid (r.data.toList = A.data.toList ++ R.data.toList) := Lib.hid (by rw [e1, e2, List.take_append_drop])
    have hno : Hid (∀ c ∈ A.data.toList, c ≠ 60 ∧ c ≠ 38) := Lib.hid fun c hc => mark_no (h3 c (by rw [← e1]; exact hc))
    have hhd : Hid (∃ c t, R.data.toList = c :: t ∧ (c = 60 ∨ c = 38)) := Lib.hid ⟨c, t, by rw [e2]; exact h4, mark_yes h5⟩
    have hAs' := Lib.hid hAs
    have hkz : (k : Int) ≤ (r.size : Int) := by omega
    have hkz0 : (0 : Int) ≤ (k : Int) := by omega
    have hkz1 : (k : Int) ≤ 9223372036854775807 := by omega
    clear h1 h2 h3 h4 h5 e1 e2 hAs
    go_enter Tryz.func82, Tryz.ntmps82
    go_wp2_with fail
    go_at_call 94
    refine cI.mono ?_
    rintro e w3 ⟨rfl, hb3⟩
    clear cI
    have hk3 := Lib.hid ((KeptR.of_below hb3).trans (KeptR.of_below (Below.drew (Below.refl _ _))))
    have hB3 : Bef w0 b r l ps w3.drew := (hkp.out w3 hb3).kept (Below.drew (Below.refl _ _))
    obtain ⟨c3, f3⟩ := (hkp.out w3 hb3).cell
    obtain ⟨p, v, hv⟩ := hB3.rd
    have cW := rdWrite_any hv A (by rw [hAs'.out]; omega) hB3.bel.size
    have hbel3 := Lib.hid hB3.bel
    clear hkp hb3 hB3 hv
    go_wp2_with fail
    go_region_held3 (fun W => Below w0.heap.size w3 W ∧ W.cell? ⟨b, 0, none⟩ = some (.string r)) (refine ⟨?_, ?_⟩ <;> first | exact Below.drew (Below.refl _ _) | exact (Below.drew (Below.refl _ _)).trans (by assumption) | assumption | exact rd_cell (by assumption))
      (first | (go_at_call 22; refine cW.mono ?_; rintro e w4 ⟨rfl, hrd4, hb4, hk4⟩))
    clear cW
    have hB4 : Bef w0 b r (l ++ A.data.toList) ps w4 := ⟨hbel3.out.trans hb4, hrd4⟩
    have hp4 := Lib.hid (hB4.put R)
    obtain ⟨c4, f4⟩ := hB4.cell
    have hk4' := Lib.hid (hk3.out.trans hk4)
    clear hB4 hrd4 hb4 hk4 hk3
    go_wp2
    go_ret
    refine ⟨.inl ⟨A, R, hsplit.out, hno.out, hhd.out, ?_, hp4.out.1⟩, hk4'.out.trans hp4.out.2⟩
    rw [hAs'.out]
    first
      | rfl
      | (refine ret_bool ?_
         rw [Bool.eq_iff_iff]
         simp)
end Go.Proofs.YtjeagjleolmibaaGreatDoor.Xm

/-
  WALKS OF THE PROGRAM's READER OF LAYER xml: its builder read and emptied; isBlank, closing, put.
-/
set_option linter.unusedVariables false
namespace Go.Proofs.YtjeagjleolmibaaGreatDoor.Xm
open Go.Lib Go.RowKit

/-! ### what is left where a piece is laid -/
/-- a block that the reader's calls write, where pieces are laid too -/
def weak (o : Obj) : Prop := ∃ cs t fr, o = .cells cs t fr ∧ (t = 5 ∨ t = 37 ∨ t = 61)
def KeptM (w w' : World) : Prop := ∀ (k : Nat) (o : Obj), w.heap[k]? = some o → ¬ weak o → w'.heap[k]? = some o
theorem frail_weak {o : Obj} (h : frail o) : weak o := by
  obtain ⟨cs, t, fr, e, h⟩ := h
  exact ⟨cs, t, fr, e, h.elim .inl (fun x => .inr (.inr x))⟩
theorem KeptR.old {w w' : World} (h : KeptR w w') : KeptM w w' := fun k o hk hf => h.2 k o hk (fun x => hf (frail_weak x))
/-- all is left but the row q of pieces, which goes over into q' -/
structure KeptW (q : Value) (w : World) (q' : Value) (w' : World) : Prop where
  blocks : ∀ (k : Nat) (o : Obj), w.heap[k]? = some o → ¬ frail o → q.ownBlock ≠ some k → w'.heap[k]? = some o
  row : ∀ g, q'.ownBlock = some g → q.ownBlock = some g ∨ w.heap.size ≤ g
  size : w.heap.size ≤ w'.heap.size
theorem KeptW.refl (q : Value) (w : World) : KeptW q w q w := ⟨fun _ _ h _ _ => h, fun _ h => .inl h, Nat.le_refl _⟩
theorem KeptW.trans {q q1 q2 : Value} {w w1 w2 : World} (h : KeptW q w q1 w1) (k : KeptW q1 w1 q2 w2) : KeptW q w q2 w2 := by
  refine ⟨fun i o hi hf hq => k.blocks i o (h.blocks i o hi hf hq) hf (fun e => ?_), fun g hg => ?_, Nat.le_trans h.size k.size⟩
  · have hlt := (Array.getElem?_eq_some_iff.1 hi).1
    rcases h.row i e with e | e
    · exact hq e
    · omega
  · rcases k.row g hg with e | e
    · exact h.row g e
    · exact .inr (Nat.le_trans h.size e)
theorem KeptR.W {q : Value} {w w' : World} (h : KeptR w w') : KeptW q w q w' := ⟨fun k o hk hf _ => h.2 k o hk hf, fun _ h => .inl h, h.1⟩
theorem KeptW.old {q q' : Value} {w w' : World} {B : Nat} {ps : List Pc} (h : KeptW q w q' w') (hq : PsOwn B q ps w) : KeptM w w' := fun k o hk hf => h.blocks k o hk (fun x => hf (frail_weak x)) (fun e => by
  obtain ⟨cs, fr, hx⟩ := rowP_type hq e
  rw [hk] at hx
  injection hx with hx
  exact hf ⟨cs, _, fr, hx, .inr (.inl rfl)⟩)
/-! ### the characters read -/
theorem RdV.froze {B b g cap : Nat} {r : ByteArray} {p q : Value} {l : Row} {ps : List Pc} {w : World} (h : RdV B b r p (.slice (some ⟨g, 0, none⟩) l.length cap) l q ps w) : RdV B b r p (.slice (some ⟨g, 0, none⟩) l.length cap) l q ps (w.freeze ⟨g, 0, none⟩ l.length) := by
  have hown := h.row
  have hgt := rowB_type hown (i := g) rfl
  have hgb : g ≠ b := fun e => by
    subst e
    obtain ⟨cs, fr, hx⟩ := hgt
    exact types_ne.2.1 (cells_type hx h.at0)
  have hgq : ∀ i, q.ownBlock = some i → g ≠ i := fun i hi e => by
    subst e
    obtain ⟨cs, fr, hx⟩ := hgt
    obtain ⟨cs', fr', hy⟩ := rowP_type h.pcs hi
    exact types_ne.1 (cells_type hx hy)
  unfold World.freeze
  split
  · exact h
  · rename_i hn0
    refine ⟨h.hB, ?_, h.ptr, ⟨hown.1, ?_⟩, h.nil, psOwn_kept h.pcs (fun i o hi ho => ?_)⟩
    · simp only [Array.getElem?_modify]
      rw [if_neg hgb]
      exact h.at0
    · rcases hown.2 with ⟨hv, _⟩ | ⟨g', cap', cur, fz, hv, hbg, hg, hfz, rest⟩
      · cases hv
      · injection hv with ha _ hcap
        injection ha with ha
        injection ha with hgg _ _
        subst hgg
        subst hcap
        obtain ⟨lo, hi⟩ := fz
        refine .inr ⟨g, _, cur, (if lo == hi then (0, 0 + l.length) else (min lo 0, max hi (0 + l.length))), rfl, hbg, ?_, ?_, rest⟩
        · simp [Array.getElem?_modify, hg]
        · simp only at hfz
          split <;> simp <;> omega
    · simp only [Array.getElem?_modify]
      rw [if_neg (hgq i ho)]
      exact hi
set_option maxHeartbeats 2000000 in
set_option maxRecDepth 100000 in
theorem rdString_any {B b : Nat} {r : ByteArray} {p v q : Value} {l : Row} {ps : List Pc} {w : World} (h : RdV B b r p v l q ps w) :
    Calls Tryz.prog 25 #[.pointer (some ⟨b, 1, none⟩)] w fun e w' => e = .returned (.string ⟨l.toArray⟩) ∧ RdV B b r p v l q ps w' ∧ Below B w w' ∧ KeptR w w' := by
  by_cases h0 : l = []
  · subst h0
    have hv := h.nil rfl
    subst hv
    have hD := h.kept (Below.drew (Below.refl _ _))
    have c1 : w.drew.cell? ⟨b, 2, none⟩ = some (.slice none 0 0) := hD.cell.2.2.1
    have hSD : (Builtin.unsafeSliceData_ #[49] 66 #[.slice none 0 0]).run Tryz.prog w.drew = .ok (.pointer none) w.drew := rfl
    have hUS : (Builtin.unsafeString_ #[66, 3] 9 #[.pointer none, .int .i64 0]).run Tryz.prog w.drew = .ok (.string .empty) w.drew := Lib.run_unsafeString_none w.drew _ _ _ none
    have hfin := Lib.hid (show RdV B b r p (.slice none 0 0) [] q ps w.drew ∧ Below B w w.drew ∧ KeptR w w.drew from ⟨hD, Below.drew (Below.refl _ _), KeptR.of_below (Below.drew (Below.refl _ _))⟩)
    clear h hD
    go_enter Tryz.func25, Tryz.ntmps25
    go_wp2
    go_region
    all_goals (go_wp2; go_ret; exact ⟨rfl, hfin.out⟩)
  · have hown := h.row
    have hl0 : l.length ≠ 0 := by simpa using h0
    obtain ⟨g, cap, cur, fz, rfl, hbg, hg, hfz, hnc, hcm, hcs, htake⟩ : ∃ g cap cur fz, v = .slice (some ⟨g, 0, none⟩) l.length cap ∧ B ≤ g ∧ w.heap[g]? = some (.cells cur 5 fz) ∧ fz.2 ≤ l.length * 1 ∧ l.length ≤ cap ∧ cap ≤ maxLen ∧ cur.size = cap * 1 ∧ cur.toList.take (l.length * 1) = Lib.byteCells l := by
      rcases hown.2 with ⟨_, hz⟩ | ⟨g, cap, cur, fz, hv, r⟩
      · exact absurd hz hl0
      · exact ⟨g, cap, cur, fz, hv, r⟩
    have hD := h.kept (Below.drew (Below.refl _ _))
    have c1 : w.drew.cell? ⟨b, 2, none⟩ = some (.slice (some ⟨g, 0, none⟩) l.length cap) := hD.cell.2.2.1
    have hSD : (Builtin.unsafeSliceData_ #[49] 66 #[.slice (some ⟨g, 0, none⟩) l.length cap]).run Tryz.prog w.drew = .ok (.pointer (some ⟨g, 0, none⟩)) w.drew :=
      Lib.run_unsafeSliceData_row _ _ _ _ _ _ (by omega)
    have hUS : (Builtin.unsafeString_ #[66, 3] 9 #[.pointer (some ⟨g, 0, none⟩), .int .i64 l.length]).run Tryz.prog w.drew = .ok (.string ⟨l.toArray⟩) (w.drew.freeze ⟨g, 0, none⟩ l.length) := by
      refine Lib.run_unsafeString_row w.drew 66 3 9 5 Tryz.underlying66 cells8 g cur.size (by have hg' : w.drew.heap[g]? = some (.cells cur 5 fz) := hg; simp [World.shape?, hg']) l h0 (by omega) (by unfold maxLen at hcm; omega) ?_
      intro j x hx
      have := hown.cells (g := g) rfl j (.int .u8 x.toNat) (by simp [Lib.byteCells, hx])
      exact this
    have hfin := Lib.hid (show RdV B b r p (.slice (some ⟨g, 0, none⟩) l.length cap) l q ps (w.drew.freeze ⟨g, 0, none⟩ l.length) ∧ Below B w (w.drew.freeze ⟨g, 0, none⟩ l.length) ∧ KeptR w (w.drew.freeze ⟨g, 0, none⟩ l.length) from
      ⟨hD.froze, Lib.below_freeze (Below.drew (Below.refl B w)) (p := ⟨g, 0, none⟩) hbg _, (KeptR.of_below (Below.drew (Below.refl _ _))).trans (KeptR.freeze (w := w.drew) hg _)⟩)
    clear h hD hown hg hfz hcs htake
    go_enter Tryz.func25, Tryz.ntmps25
    go_wp2
    go_region
    all_goals (go_wp2; go_ret; exact ⟨rfl, hfin.out⟩)
set_option maxHeartbeats 2000000 in
set_option maxRecDepth 100000 in
theorem rdReset_any {B b : Nat} {r : ByteArray} {p v q : Value} {l : Row} {ps : List Pc} {w : World} (h : RdV B b r p v l q ps w) :
    Calls Tryz.prog 80 #[.pointer (some ⟨b, 1, none⟩)] w fun e w' => e = .returned (.tuple #[]) ∧ RdV B b r (.pointer none) (.slice none 0 0) [] q ps w' ∧ Below B w w' ∧ KeptR w w' := by
  obtain ⟨c0, c1, c2, c3⟩ := h.cell
  have f1 := h.free 1
  have h1 : RdV B b r (.pointer none) v l q ps (w.setCell ⟨b, 1, none⟩ (.pointer none)) := RdV.set 1 h.at0 h.hB rfl (.inl rfl) h.row h.nil h.pcs
  have h2 : RdV B b r (.pointer none) (.slice none 0 0) [] q ps ((w.setCell ⟨b, 1, none⟩ (.pointer none)).setCell ⟨b, 2, none⟩ (.slice none 0 0)) := RdV.set 2 h1.at0 h1.hB rfl (.inl rfl) (World.ownsRowF_nil _ _ _ _) (fun _ => rfl) h1.pcs
  have k1 := KeptR.setCell h.at0 1 (.pointer none)
  have k2 := KeptR.setCell h1.at0 2 (.slice none 0 0)
  have b1 : Below B w (w.setCell ⟨b, 1, none⟩ (.pointer none)) := (Below.refl B w).setCell (p := ⟨b, 1, none⟩) h.hB _
  have b2 := b1.setCell (p := ⟨b, 2, none⟩) h.hB (.slice none 0 0)
  have d2 := h1.cell.2.2.1
  have g2 := h1.free 2
  have hfin := Lib.hid (show _ ∧ _ ∧ _ from ⟨h2, b2, k1.trans k2⟩)
  clear h h1 h2 k1 k2 b1 b2
  go_enter Tryz.func80, Tryz.ntmps80
  go_wp2
  go_end0
  exact ⟨rfl, hfin.out⟩

/-! ### blanks alone -/
set_option maxHeartbeats 2000000 in
set_option maxRecDepth 100000 in
theorem isBlank_any (s : ByteArray) (w : World) (hs : s.size ≤ 9223372036854775807) : Calls Tryz.prog 33 #[.string s] w fun e w' => e = .returned (.bool (blanks s.data.toList)) ∧ Below w.heap.size w w' := by
  have cT := trim_any s w hs
  obtain ⟨K, hK⟩ : ∃ K, blanks s.data.toList = K := ⟨_, rfl⟩
  rw [hK] at cT ⊢
  clear hK
  go_enter Tryz.func33, Tryz.ntmps33
  go_wp2_with fail
  go_at_call 48
  with_reducible refine cT.mono ?_
  rintro e w3 ⟨⟨x, rfl, hx⟩, hb3⟩
  have hb3' := Lib.hid hb3
  clear cT hb3
  cases K with
  | true =>
    have h0 : x.data.toList = [] := hx.2 rfl
    have hl : x.toList = [] := by rw [Lib.toList_data, h0]
    have he : x.toList.isEmpty = true := by rw [hl]; rfl
    clear hx h0
    go_wp2
    go_ret
    first
      | exact ⟨rfl, hb3'.out⟩
      | exact ⟨ret_bool he, hb3'.out⟩
  | false =>
    have h0 : ¬ x.data.toList = [] := fun e => by have := hx.1 e; cases this
    have hl : ¬ x.toList = [] := by rw [Lib.toList_data]; exact h0
    have he : x.toList.isEmpty = false := by
      cases hv : x.toList with
      | nil => exact absurd hv hl
      | cons y t => rfl
    clear hx h0
    go_wp2
    go_ret
    first
      | exact ⟨rfl, hb3'.out⟩
      | exact ⟨ret_bool he, hb3'.out⟩
set_option maxHeartbeats 2000000 in
set_option maxRecDepth 100000 in
theorem closing_any (k sp : Int) (n t : ByteArray) (w : World) : Calls Tryz.prog 20 #[.agg #[.int .i64 k, .int .i64 sp, .string n, .string t]] w fun e w' => e = .returned (.agg #[.int .i64 2, .int .i64 sp, .string n, .string ⟨#[]⟩]) ∧ Below w.heap.size w w' := by
  go_enter Tryz.func20, Tryz.ntmps20
  go_wp2
  exact bodyPost_ret (v := .agg #[.int .i64 2, .int .i64 sp, .string n, .string ⟨#[]⟩]) (by simp [results, Tryz.results20, go_sem]) rfl ⟨rfl, ((Below.refl _ _).alloc (Nat.le_refl _) _).alloc (by simp) _⟩
end Go.Proofs.YtjeagjleolmibaaGreatDoor.Xm
