/-
  WALKS OF strings.IndexAny, ContainsAny, at every string and at whatever two bytes or more below 128 are looked for (at most 64).
-/
import Derived.Test.YthkcjfoihieooaaDoorAnyRune
set_option linter.unusedVariables false
namespace Go.Proofs.YthkcjfoihieooaaDoor.An
open Go.Lib Go.RowKit

theorem zero256 : ∀ w, (zeroValue 98).run Tryd.prog w = .ok (.agg (Array.replicate 256 (.bool false))) w :=
  (zero_of_info (show (Tryd.prog.info? 98).map (fun i => (i.zero, i.size)) = some (some (.agg (Array.replicate 256 (.bool false))), 256) by kernel_rfl)).1

def IxP (l cs : List UInt8) (e : Ending) : Prop := e = .returned (.int .i64 (Lib.indexAny l cs))

set_option maxHeartbeats 2000000 in
set_option maxRecDepth 1000000 in
theorem indexAny_short (s cs : ByteArray) (ha : Asc cs) (h2 : 2 ≤ cs.size) (hbig : cs.size ≤ 64) (w : World) (h8 : s.size ≤ 8) :
    Calls Tryd.prog 60 #[.string s, .string cs] w fun e w' => IxP s.data.toList cs.data.toList e ∧ Below w.heap.size w w' := by
  have cU : ∀ W, Calls Tryd.prog 68 #[.int .i64 (s.size : Int)] W fun e w' => e = .returned (.bool false) ∧ W = w' := fun W => by
    refine (Tryd.strings_shouldUseASCIISet (s.size : Int) W).mono ?_
    rintro e w' ⟨rfl, rfl⟩
    rw [show decide ((8 : Int) < (s.size : Int)) = false from decide_eq_false (by omega)]
    exact ⟨rfl, rfl⟩
  have hcn : cs.toList.isEmpty = false := by
    rw [Lib.toList_data]
    cases hd : cs.data.toList with
    | nil => have := Lib.size_eq cs; rw [hd, List.length_nil] at this; omega
    | cons _ _ => rfl
  have hc1 : ((cs.size : Int) == 1) = false := beq_eq_false_iff_ne.2 (by omega)
  have hc2 : (cs.size == 1) = false := beq_eq_false_iff_ne.2 (by omega)
  go_enter Tryd.func60, Tryd.ntmps60
  go_wp2_with (go_at_call 68; refine (cU _).mono ?_; rintro e w' ⟨rfl, rfl⟩)
  clear cU
  go_loopw [] (fun wr => ∃ pos : Nat, pos ≤ s.size ∧ wr.heap[w.heap.size]? = some (.stringIter s pos) ∧ Below w.heap.size w wr ∧ Lib.NoAny s.data.toList cs.data.toList pos) (fun wr => s.size - wr.iterPos w.heap.size)
  case atStart => exact ⟨0, Nat.zero_le _, World.iter_heap w s 0, (Below.refl _ _).alloc (Nat.le_refl _) _, fun j b hj _ => absurd hj (Nat.not_lt_zero _)⟩
  case round =>
    obtain ⟨pos, hpos, hit, hbw, hen⟩ := hrel
    have hsz : w.heap.size < wr.heap.size := (Array.getElem?_eq_some_iff.1 hit).1
    have hen' := Lib.hid hen
    clear hen
    by_cases hp : pos < s.size
    · have hne : s.data.toList.drop pos ≠ [] := fun h => by
        have := List.drop_eq_nil_iff.1 h
        rw [← Lib.size_eq] at this
        omega
      obtain ⟨f1, f2, f3⟩ := dec_facts _ hne
      rw [decodeL_drop] at f1 f2 f3
      rw [List.length_drop, ← Lib.size_eq] at f2
      have hnx : ∀ ty, (Instr.next (.pointer (some ⟨w.heap.size, 0, none⟩)) true ty).run Tryd.prog wr = _ := fun ty => Lib.run_next_any_at wr w.heap.size s pos ty hit hp
      obtain ⟨⟨r, n⟩, hd⟩ : ∃ p, Utf8.decode s pos = p := ⟨_, rfl⟩
      rw [hd] at f1 f2 f3
      simp only [hd] at hnx
      have hit2 := Lib.iterAt_heap wr w.heap.size s pos (pos + n) hit
      have hbw2 := Lib.below_iterAt hbw (k := w.heap.size) (Nat.le_refl _) s (pos + n)
      have hsz2 : w.heap.size < (wr.iterAt w.heap.size s (pos + n)).heap.size := by rw [Lib.iterAt_size]; exact hsz
      have hxg : s.data.toList[pos]? = some (s[pos]'hp) := Lib.data_getElem? s pos hp
      have hx0 : ((s.data.toList.drop pos).getD 0 0).toNat = (s[pos]'hp).toNat := by
        rw [List.getD_eq_getElem?_getD, List.getElem?_drop, Nat.add_zero, hxg]; rfl
      have cR0 := fun W => indexRune_at cs ha hbig r W
      clear hd hne
      cases hc : (if r < 128 then cs.data.toList.contains (UInt8.ofNat r) else false)
      · have hnext : Lib.NoAny s.data.toList cs.data.toList (pos + n) := by
          rcases f3 with ⟨g1, g2, g3⟩ | ⟨g1, g2⟩
          · rw [hx0] at g3
            have g2 : n = 1 := g2
            have g3 : (s[pos]'hp).toNat = r := g3
            rw [if_pos g1] at hc
            rw [g2]
            exact NoAny.one hen'.out hxg (by rw [← hc, ← g3]; simp)
          · exact NoAny.more hen'.out ha g2
        have hnext' := Lib.hid hnext
        have cR : ∀ W, Calls Tryd.prog 67 #[.string cs, .int .i32 (r : Int)] W fun e w' => (∃ i : Int, e = .returned (.int .i64 i) ∧ i < 0) ∧ Below W.heap.size W w' := fun W => (cR0 W).mono fun e w' ⟨⟨i, h1, h2⟩, hb⟩ => ⟨⟨i, h1, by
          rw [hc] at h2
          have := of_decide_eq_false h2.symm
          omega⟩, hb⟩
        have hit4 := Lib.hid hit
        clear hnext f3 hx0 hxg hc hit cR0
        go_wp2_with (go_at_call 67; refine (cR _).mono ?_; rintro e w3 ⟨⟨i, rfl, hi⟩, hb3⟩)
        have hit3 : w3.heap[w.heap.size]? = some (.stringIter s (pos + n)) := (hb3.block _ hsz2).trans hit2
        go_roundw
        case rel => exact ⟨pos + n, by omega, hit3, hbw2.trans (hb3.mono (by omega)), hnext'.out⟩
        case measure =>
          simp only [World.iterPos, hit3, hit4.out]
          omega
      · have hfin : IxP s.data.toList cs.data.toList (.returned (.int .i64 (pos : Int))) := by
          rcases f3 with ⟨g1, g2, g3⟩ | ⟨g1, _⟩
          · rw [hx0] at g3
            have g3 : (s[pos]'hp).toNat = r := g3
            rw [if_pos g1] at hc
            unfold IxP
            rw [Lib.indexAny_hit hen'.out hxg (by rw [← hc, ← g3]; simp)]
          · have g1 : 128 ≤ r := g1
            rw [if_neg (by omega)] at hc
            cases hc
        have hfin' := Lib.hid hfin
        have cR : ∀ W, Calls Tryd.prog 67 #[.string cs, .int .i32 (r : Int)] W fun e w' => (∃ i : Int, e = .returned (.int .i64 i) ∧ 0 ≤ i) ∧ Below W.heap.size W w' := fun W => (cR0 W).mono fun e w' ⟨⟨i, h1, h2⟩, hb⟩ => ⟨⟨i, h1, by
          rw [hc] at h2
          exact of_decide_eq_true h2.symm⟩, hb⟩
        clear hfin f3 hx0 hxg hc f1 f2 hit cR0
        go_wp2_with (go_at_call 67; refine (cR _).mono ?_; rintro e w3 ⟨⟨i, rfl, hi⟩, hb3⟩)
        go_ret
        exact ⟨hfin'.out, hbw2.trans (hb3.mono (by omega))⟩
    · have hfin : IxP s.data.toList cs.data.toList (.returned (.int .i64 (-1))) := by
        have h := hen'.out
        unfold IxP
        rw [Lib.indexAny_none (fun j b hj hb => h j b (by rw [← Lib.size_eq] at hj; omega) hb)]
      have hfin' := Lib.hid hfin
      have hnx : ∀ ty, (Instr.next (.pointer (some ⟨w.heap.size, 0, none⟩)) true ty).run Tryd.prog wr = _ := fun ty => Lib.run_next_end_at wr w.heap.size s pos ty hit hp
      clear hfin
      go_wp2
      go_ret
      exact ⟨hfin'.out, hbw⟩

/-- the set of the bytes in a new block -/
def setW (cs : List UInt8) (w : World) : World := (w.alloc (.cells (Lib.setCells cs) 98)).alloc (.cells (Lib.setCells cs) 98)
theorem setW_cell (cs : List UInt8) (w : World) (x : UInt8) : (setW cs w).cell? ⟨w.heap.size + 1, x.toNat, none⟩ = some (.bool (cs.contains x)) := by
  unfold setW
  rw [World.cell?_alloc_at _ _ _ _ (by simp), Lib.setCells_at]
theorem setW_below (cs : List UInt8) (w : World) : Below w.heap.size w (setW cs w) := ((Below.refl _ _).alloc (Nat.le_refl _) _).alloc (by simp) _

set_option maxHeartbeats 4000000 in
set_option maxRecDepth 1000000 in
/-- a string of more than eight bytes: the set is made, each byte is looked up in it -/
theorem indexAny_long (s cs : ByteArray) (ha : Asc cs) (h2 : 2 ≤ cs.size) (hbig : cs.size ≤ 64) (w : World) (h8 : 8 < s.size) (hs : s.size ≤ 9223372036854775807) :
    Calls Tryd.prog 60 #[.string s, .string cs] w fun e w' => IxP s.data.toList cs.data.toList e ∧ Below w.heap.size w w' := by
  have hM := Tryd.strings_makeASCIISet zero256 cs w (by omega) ha
  have cU : ∀ W, Calls Tryd.prog 68 #[.int .i64 (s.size : Int)] W fun e w' => e = .returned (.bool true) ∧ W = w' := fun W => by
    refine (Tryd.strings_shouldUseASCIISet (s.size : Int) W).mono ?_
    rintro e w' ⟨rfl, rfl⟩
    rw [show decide ((8 : Int) < (s.size : Int)) = true from decide_eq_true (by omega)]
    exact ⟨rfl, rfl⟩
  have hsc : (storeCells ⟨w.heap.size + 1, 0, none⟩ (Lib.setCells cs.data.toList).toList 0).run Tryd.prog ((w.alloc (.cells (Lib.setCells cs.data.toList) 98)).alloc (.cells (Array.replicate 256 (.bool false)) 98)) = .ok () (setW cs.data.toList w) := by
    have := run_storeCells_new (P := Tryd.prog) (w.alloc (.cells (Lib.setCells cs.data.toList) 98)) 98 (Array.replicate 256 (.bool false)) (Lib.setCells cs.data.toList) (by rw [Lib.setCells_size]; kernel_rfl) (by rw [Lib.setCells_size, Array.size_replicate]) (Lib.setCells_one _)
    simpa [setW] using this
  have hz : ∀ w, (zeroValue 98).run Tryd.prog w = _ := zero256
  have hcn : cs.toList.isEmpty = false := by
    rw [Lib.toList_data]
    cases hd : cs.data.toList with
    | nil => have := Lib.size_eq cs; rw [hd, List.length_nil] at this; omega
    | cons _ _ => rfl
  have hc1 : ((cs.size : Int) == 1) = false := beq_eq_false_iff_ne.2 (by omega)
  have hc2 : (cs.size == 1) = false := beq_eq_false_iff_ne.2 (by omega)
  have hss := Lib.setCells_size cs.data.toList
  have ha' := Lib.hid ha
  clear ha
  go_enter Tryd.func60, Tryd.ntmps60
  go_wp2_with (first
    | (go_at_call 68; refine (cU _).mono ?_; rintro e w' ⟨rfl, rfl⟩)
    | (go_at_call 69; refine hM.mono ?_; rintro e w' ⟨rfl, hw⟩; rw [hw]))
  clear hM hsc cU hss
  have hbw := setW_below cs.data.toList w
  have hcell := Lib.hid (setW_cell cs.data.toList w)
  generalize setW cs.data.toList w = w2 at hbw hcell ⊢
  go_loop [8] (fun s8 => ∃ i : Nat, s8 = .int .i64 (i : Int) ∧ i ≤ s.size ∧ Lib.NoAny s.data.toList cs.data.toList i) (fun s8 => s.size - (RowKit.intOf s8).toNat)
  case atStart => exact ⟨0, rfl, Nat.zero_le _, fun j b hj _ => absurd hj (Nat.not_lt_zero _)⟩
  case round =>
    obtain ⟨i, rfl, hi, hen⟩ := hrel
    have hen' := Lib.hid hen
    clear hen
    by_cases hlt : i < s.size
    · have hxg : s.data.toList[i]? = some (s[i]'hlt) := Lib.data_getElem? s i hlt
      have cC : ∀ v, cs.data.toList.contains (s[i]'hlt) = v → Calls Tryd.prog 70 #[.pointer (some ⟨w.heap.size + 1, 0, none⟩), .int .u8 ((s[i]'hlt).toNat : Int)] w2 fun e w' => e = .returned (.bool v) ∧ w2 = w' := fun v hv => by
        have hc := hcell.out (s[i]'hlt)
        rw [hv] at hc
        refine (Tryd.asciiSet_contains (w.heap.size + 1) (s[i]'hlt) v w2 hc).mono ?_
        rintro e w' ⟨rfl, rfl⟩
        exact ⟨rfl, rfl⟩
      cases hx : cs.data.toList.contains (s[i]'hlt)
      · have hn := Lib.hid (NoAny.one hen'.out hxg hx)
        have cC1 := cC false hx
        clear hx hxg cC
        go_wp2_with (go_at_call 70; refine cC1.mono ?_; rintro e w' ⟨rfl, rfl⟩)
        go_round
        case rel => exact ⟨i + 1, by go_num, by omega, hn.out⟩
        case measure => simp [RowKit.intOf]; omega
      · have hfin : IxP s.data.toList cs.data.toList (.returned (.int .i64 (i : Int))) := by unfold IxP; rw [Lib.indexAny_hit hen'.out hxg hx]
        have hfin' := Lib.hid hfin
        have cC1 := cC true hx
        clear hfin hx hxg cC
        go_wp2_with (go_at_call 70; refine cC1.mono ?_; rintro e w' ⟨rfl, rfl⟩)
        go_ret
        exact ⟨hfin'.out, hbw⟩
    · have hfin : IxP s.data.toList cs.data.toList (.returned (.int .i64 (-1))) := by
        have h := hen'.out
        unfold IxP
        rw [Lib.indexAny_none (fun j b hj hb => h j b (by rw [← Lib.size_eq] at hj; omega) hb)]
      have hfin' := Lib.hid hfin
      clear hfin
      go_wp2
      go_ret
      exact ⟨hfin'.out, hbw⟩

theorem indexAny_all (s cs : ByteArray) (ha : Asc cs) (h2 : 2 ≤ cs.size) (hbig : cs.size ≤ 64) (w : World) (hs : s.size ≤ 9223372036854775807) :
    Calls Tryd.prog 60 #[.string s, .string cs] w fun e w' => e = .returned (.int .i64 (Lib.indexAny s.data.toList cs.data.toList)) ∧ Below w.heap.size w w' := by
  by_cases h8 : s.size ≤ 8
  · exact indexAny_short s cs ha h2 hbig w h8
  · exact indexAny_long s cs ha h2 hbig w (by omega) hs

set_option maxHeartbeats 2000000 in
set_option maxRecDepth 100000 in
theorem containsAny_all (s cs : ByteArray) (ha : Asc cs) (h2 : 2 ≤ cs.size) (hbig : cs.size ≤ 64) (w : World) (hs : s.size ≤ 9223372036854775807) :
    Calls Tryd.prog 43 #[.string s, .string cs] w fun e w' => e = .returned (.bool (Lib.containsAny s.data.toList cs.data.toList)) ∧ Below w.heap.size w w' := by
  obtain ⟨E, hE⟩ : ∃ E, Lib.indexAny s.data.toList cs.data.toList = E := ⟨_, rfl⟩
  have cI := fun W => indexAny_all s cs ha h2 hbig W hs
  unfold Lib.containsAny
  rw [hE] at cI ⊢
  clear hE ha
  go_enter Tryd.func43, Tryd.ntmps43
  go_wp2_with (go_at_call 60; refine (cI _).mono ?_; rintro e w3 ⟨rfl, hb3⟩)
  go_ret
  exact ⟨rfl, hb3⟩
/-- one byte is looked for -/
theorem containsAny_one (s cs : ByteArray) (ha : Asc cs) (h1 : cs.size = 1) (w : World) :
    Calls Tryd.prog 43 #[.string s, .string cs] w fun e w' => e = .returned (.bool (Lib.containsAny s.data.toList cs.data.toList)) ∧ Below w.heap.size w w' := by
  obtain ⟨E, hE⟩ : ∃ E, Lib.indexAny s.data.toList cs.data.toList = E := ⟨_, rfl⟩
  have cI := fun W => Tryd.strings_IndexAny_one s cs W h1 ha
  unfold Lib.containsAny
  rw [hE] at cI ⊢
  clear hE ha h1
  go_enter Tryd.func43, Tryd.ntmps43
  go_wp2_with (go_at_call 60; refine (cI _).mono ?_; rintro e w3 ⟨rfl, rfl⟩)
  go_ret
  exact ⟨rfl, Below.refl _ _⟩
theorem contains_any (l cs : List UInt8) : Lib.containsAny l cs = l.any fun b => cs.contains b := by
  unfold Lib.containsAny
  induction l with
  | nil => rfl
  | cons b l ih =>
    have hge := Lib.indexAny_ge cs l
    rw [Lib.indexAny, List.any_cons, ← ih]
    cases hb : cs.contains b
    · simp only [Bool.false_or, Bool.false_eq_true, if_false]
      by_cases h : Lib.indexAny l cs = -1
      · simp [h]
      · have h1 : (Lib.indexAny l cs == -1) = false := by simpa using h
        simp only [h1, Bool.false_eq_true, if_false]
        rw [decide_eq_true (show (0 : Int) ≤ Lib.indexAny l cs + 1 by omega), decide_eq_true (show (0 : Int) ≤ Lib.indexAny l cs by omega)]
    · simp
end Go.Proofs.YthkcjfoihieooaaDoor.An
