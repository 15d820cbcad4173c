import Derived.Test.YthnnpnlapjlnoaaGreatDoorMg7
import Derived.Test.YthnnpnlapjlnoaaGreatDoorProg
import Derived.Test.YthnnpnlapjlnoaaGreatDoorMg4
import Derived.WalkKit
import Derived.WalkMore
import Derived.Below
import Derived.LoopTactic
import Derived.Laws.IdiomStrings
import Derived.Laws.MakeOwn
import Derived.Laws.OwnMore
import Derived.Outline
import Derived.Lib.Hide
import Derived.Lib.ItoaMem
import Derived.Test.YthnnpnlapjlnoaaGreatDoorMg6

/-
  WALKS OF strings.IndexAny, ContainsAny, at every string and at whatever two bytes or more below 128 are looked for (at most 64).
-/
set_option linter.unusedVariables false
namespace Go.Proofs.YthnnpnlapjlnoaaGreatDoor.An
open Go.Lib Go.RowKit

theorem zero256 : ∀ w, (zeroValue 160).run Tryz.prog w = .ok (.agg (Array.replicate 256 (.bool false))) w :=
  (zero_of_info (show (Tryz.prog.info? 160).map (fun i => (i.zero, i.size)) = some (some (.agg (Array.replicate 256 (.bool false))), 256) by kernel_rfl)).1

def IxP (l cs : List UInt8) (e : Ending) : Prop := e = .returned (.int .i64 (Lib.indexAny l cs))

set_option maxHeartbeats 2000000 in
set_option maxRecDepth 1000000 in
theorem indexAny_short (s cs : ByteArray) (ha : Asc cs) (h2 : 2 ≤ cs.size) (hbig : cs.size ≤ 64) (w : World) (h8 : s.size ≤ 8) :
    Calls Tryz.prog 123 #[.string s, .string cs] w fun e w' => IxP s.data.toList cs.data.toList e ∧ Below w.heap.size w w' := by
  have cU : ∀ W, Calls Tryz.prog 139 #[.int .i64 (s.size : Int)] W fun e w' => e = .returned (.bool false) ∧ W = w' := fun W => by
    refine (Tryz.strings_shouldUseASCIISet (s.size : Int) W).mono ?_
    rintro e w' ⟨rfl, rfl⟩
    rw [show decide ((8 : Int) < (s.size : Int)) = false from decide_eq_false (by omega)]
    exact ⟨rfl, rfl⟩
  have hcn : cs.toList.isEmpty = false := by
    rw [Lib.toList_data]
    cases hd : cs.data.toList with
    | nil => have := Lib.size_eq cs; rw [hd, List.length_nil] at this; omega
    | cons _ _ => rfl
  have hc1 : ((cs.size : Int) == 1) = false := beq_eq_false_iff_ne.2 (by omega)
  have hc2 : (cs.size == 1) = false := beq_eq_false_iff_ne.2 (by omega)
  go_enter Tryz.func123, Tryz.ntmps123
  go_wp2_with (go_at_call 139; refine (cU _).mono ?_; rintro e w' ⟨rfl, rfl⟩)
  clear cU
  go_loopw [] (fun wr => ∃ pos : Nat, pos ≤ s.size ∧ wr.heap[w.heap.size]? = some (.stringIter s pos) ∧ Below w.heap.size w wr ∧ Lib.NoAny s.data.toList cs.data.toList pos) (fun wr => s.size - wr.iterPos w.heap.size)
  case atStart => exact ⟨0, Nat.zero_le _, World.iter_heap w s 0, (Below.refl _ _).alloc (Nat.le_refl _) _, fun j b hj _ => absurd hj (Nat.not_lt_zero _)⟩
  case round =>
    obtain ⟨pos, hpos, hit, hbw, hen⟩ := hrel
    have hsz : w.heap.size < wr.heap.size := (Array.getElem?_eq_some_iff.1 hit).1
    have hen' := Lib.hid hen
    clear hen
    by_cases hp : pos < s.size
    · have hne : s.data.toList.drop pos ≠ [] := fun h => by
        have := List.drop_eq_nil_iff.1 h
        rw [← Lib.size_eq] at this
        omega
      obtain ⟨f1, f2, f3⟩ := dec_facts _ hne
      rw [decodeL_drop] at f1 f2 f3
      rw [List.length_drop, ← Lib.size_eq] at f2
      have hnx : ∀ ty, (Instr.next (.pointer (some ⟨w.heap.size, 0, none⟩)) true ty).run Tryz.prog wr = _ := fun ty => Lib.run_next_any_at wr w.heap.size s pos ty hit hp
      obtain ⟨⟨r, n⟩, hd⟩ : ∃ p, Utf8.decode s pos = p := ⟨_, rfl⟩
      rw [hd] at f1 f2 f3
      simp only [hd] at hnx
      have hit2 := Lib.iterAt_heap wr w.heap.size s pos (pos + n) hit
      have hbw2 := Lib.below_iterAt hbw (k := w.heap.size) (Nat.le_refl _) s (pos + n)
      have hsz2 : w.heap.size < (wr.iterAt w.heap.size s (pos + n)).heap.size := by rw [Lib.iterAt_size]; exact hsz
      have hxg : s.data.toList[pos]? = some (s[pos]'hp) := Lib.data_getElem? s pos hp
      have hx0 : ((s.data.toList.drop pos).getD 0 0).toNat = (s[pos]'hp).toNat := by
        rw [List.getD_eq_getElem?_getD, List.getElem?_drop, Nat.add_zero, hxg]; rfl
      have cR0 := fun W => indexRune_at cs ha hbig r W
      clear hd hne
      cases hc : (if r < 128 then cs.data.toList.contains (UInt8.ofNat r) else false)
      · have hnext : Lib.NoAny s.data.toList cs.data.toList (pos + n) := by
          rcases f3 with ⟨g1, g2, g3⟩ | ⟨g1, g2⟩
          · rw [hx0] at g3
            have g2 : n = 1 := g2
            have g3 : (s[pos]'hp).toNat = r := g3
            rw [if_pos g1] at hc
            rw [g2]
            exact NoAny.one hen'.out hxg (by rw [← hc, ← g3]; simp)
          · exact NoAny.more hen'.out ha g2
        have hnext' := Lib.hid hnext
        have cR : ∀ W, Calls Tryz.prog 138 #[.string cs, .int .i32 (r : Int)] W fun e w' => (∃ i : Int, e = .returned (.int .i64 i) ∧ i < 0) ∧ Below W.heap.size W w' := fun W => (cR0 W).mono fun e w' ⟨⟨i, h1, h2⟩, hb⟩ => ⟨⟨i, h1, by
          rw [hc] at h2
          have := of_decide_eq_false h2.symm
          omega⟩, hb⟩
        have hit4 := Lib.hid hit
        clear hnext f3 hx0 hxg hc hit cR0
        go_wp2_with (go_at_call 138; refine (cR _).mono ?_; rintro e w3 ⟨⟨i, rfl, hi⟩, hb3⟩)
        have hit3 : w3.heap[w.heap.size]? = some (.stringIter s (pos + n)) := (hb3.block _ hsz2).trans hit2
        go_roundw
        case rel => exact ⟨pos + n, by omega, hit3, hbw2.trans (hb3.mono (by omega)), hnext'.out⟩
        case measure =>
          simp only [World.iterPos, hit3, hit4.out]
          omega
      · have hfin : IxP s.data.toList cs.data.toList (.returned (.int .i64 (pos : Int))) := by
          rcases f3 with ⟨g1, g2, g3⟩ | ⟨g1, _⟩
          · rw [hx0] at g3
            have g3 : (s[pos]'hp).toNat = r := g3
            rw [if_pos g1] at hc
            unfold IxP
            rw [Lib.indexAny_hit hen'.out hxg (by rw [← hc, ← g3]; simp)]
          · have g1 : 128 ≤ r := g1
            rw [if_neg (by omega)] at hc
            cases hc
        have hfin' := Lib.hid hfin
        have cR : ∀ W, Calls Tryz.prog 138 #[.string cs, .int .i32 (r : Int)] W fun e w' => (∃ i : Int, e = .returned (.int .i64 i) ∧ 0 ≤ i) ∧ Below W.heap.size W w' := fun W => (cR0 W).mono fun e w' ⟨⟨i, h1, h2⟩, hb⟩ => ⟨⟨i, h1, by
          rw [hc] at h2
          exact of_decide_eq_true h2.symm⟩, hb⟩
        clear hfin f3 hx0 hxg hc f1 f2 hit cR0
        go_wp2_with (go_at_call 138; refine (cR _).mono ?_; rintro e w3 ⟨⟨i, rfl, hi⟩, hb3⟩)
        go_ret
        exact ⟨hfin'.out, hbw2.trans (hb3.mono (by omega))⟩
    · have hfin : IxP s.data.toList cs.data.toList (.returned (.int .i64 (-1))) := by
        have h := hen'.out
        unfold IxP
        rw [Lib.indexAny_none (fun j b hj hb => h j b (by rw [← Lib.size_eq] at hj; omega) hb)]
      have hfin' := Lib.hid hfin
      have hnx : ∀ ty, (Instr.next (.pointer (some ⟨w.heap.size, 0, none⟩)) true ty).run Tryz.prog wr = _ := fun ty => Lib.run_next_end_at wr w.heap.size s pos ty hit hp
      clear hfin
      go_wp2
      go_ret
      exact ⟨hfin'.out, hbw⟩

/-- the set of the bytes in a new block -/
def setW (cs : List UInt8) (w : World) : World := (w.alloc (.cells (Lib.setCells cs) 160)).alloc (.cells (Lib.setCells cs) 160)
theorem setW_cell (cs : List UInt8) (w : World) (x : UInt8) : (setW cs w).cell? ⟨w.heap.size + 1, x.toNat, none⟩ = some (.bool (cs.contains x)) := by
  unfold setW
  rw [World.cell?_alloc_at _ _ _ _ (by simp), Lib.setCells_at]
theorem setW_below (cs : List UInt8) (w : World) : Below w.heap.size w (setW cs w) := ((Below.refl _ _).alloc (Nat.le_refl _) _).alloc (by simp) _

set_option maxHeartbeats 4000000 in
set_option maxRecDepth 1000000 in
/-- a string of more than eight bytes: the set is made, each byte is looked up in it -/
theorem indexAny_long (s cs : ByteArray) (ha : Asc cs) (h2 : 2 ≤ cs.size) (hbig : cs.size ≤ 64) (w : World) (h8 : 8 < s.size) (hs : s.size ≤ 9223372036854775807) :
    Calls Tryz.prog 123 #[.string s, .string cs] w fun e w' => IxP s.data.toList cs.data.toList e ∧ Below w.heap.size w w' := by
  have hM := Tryz.strings_makeASCIISet zero256 cs w (by omega) ha
  have cU : ∀ W, Calls Tryz.prog 139 #[.int .i64 (s.size : Int)] W fun e w' => e = .returned (.bool true) ∧ W = w' := fun W => by
    refine (Tryz.strings_shouldUseASCIISet (s.size : Int) W).mono ?_
    rintro e w' ⟨rfl, rfl⟩
    rw [show decide ((8 : Int) < (s.size : Int)) = true from decide_eq_true (by omega)]
    exact ⟨rfl, rfl⟩
  have hsc : (storeCells ⟨w.heap.size + 1, 0, none⟩ (Lib.setCells cs.data.toList).toList 0).run Tryz.prog ((w.alloc (.cells (Lib.setCells cs.data.toList) 160)).alloc (.cells (Array.replicate 256 (.bool false)) 160)) = .ok () (setW cs.data.toList w) := by
    have := run_storeCells_new (P := Tryz.prog) (w.alloc (.cells (Lib.setCells cs.data.toList) 160)) 160 (Array.replicate 256 (.bool false)) (Lib.setCells cs.data.toList) (by rw [Lib.setCells_size]; kernel_rfl) (by rw [Lib.setCells_size, Array.size_replicate]) (Lib.setCells_one _)
    simpa [setW] using this
  have hz : ∀ w, (zeroValue 160).run Tryz.prog w = _ := zero256
  have hcn : cs.toList.isEmpty = false := by
    rw [Lib.toList_data]
    cases hd : cs.data.toList with
    | nil => have := Lib.size_eq cs; rw [hd, List.length_nil] at this; omega
    | cons _ _ => rfl
  have hc1 : ((cs.size : Int) == 1) = false := beq_eq_false_iff_ne.2 (by omega)
  have hc2 : (cs.size == 1) = false := beq_eq_false_iff_ne.2 (by omega)
  have hss := Lib.setCells_size cs.data.toList
  have ha' := Lib.hid ha
  clear ha
  go_enter Tryz.func123, Tryz.ntmps123
  go_wp2_with (first
    | (go_at_call 139; refine (cU _).mono ?_; rintro e w' ⟨rfl, rfl⟩)
    | (go_at_call 140; refine hM.mono ?_; rintro e w' ⟨rfl, hw⟩; rw [hw]))
  clear hM hsc cU hss
  have hbw := setW_below cs.data.toList w
  have hcell := Lib.hid (setW_cell cs.data.toList w)
  generalize setW cs.data.toList w = w2 at hbw hcell ⊢
  go_loop [8] (fun s8 => ∃ i : Nat, s8 = .int .i64 (i : Int) ∧ i ≤ s.size ∧ Lib.NoAny s.data.toList cs.data.toList i) (fun s8 => s.size - (RowKit.intOf s8).toNat)
  case atStart => exact ⟨0, rfl, Nat.zero_le _, fun j b hj _ => absurd hj (Nat.not_lt_zero _)⟩
  case round =>
    obtain ⟨i, rfl, hi, hen⟩ := hrel
    have hen' := Lib.hid hen
    clear hen
    by_cases hlt : i < s.size
    · have hxg : s.data.toList[i]? = some (s[i]'hlt) := Lib.data_getElem? s i hlt
      have cC : ∀ v, cs.data.toList.contains (s[i]'hlt) = v → Calls Tryz.prog 141 #[.pointer (some ⟨w.heap.size + 1, 0, none⟩), .int .u8 ((s[i]'hlt).toNat : Int)] w2 fun e w' => e = .returned (.bool v) ∧ w2 = w' := fun v hv => by
        have hc := hcell.out (s[i]'hlt)
        rw [hv] at hc
        refine (Tryz.asciiSet_contains (w.heap.size + 1) (s[i]'hlt) v w2 hc).mono ?_
        rintro e w' ⟨rfl, rfl⟩
        exact ⟨rfl, rfl⟩
      cases hx : cs.data.toList.contains (s[i]'hlt)
      · have hn := Lib.hid (NoAny.one hen'.out hxg hx)
        have cC1 := cC false hx
        clear hx hxg cC
        go_wp2_with (go_at_call 141; refine cC1.mono ?_; rintro e w' ⟨rfl, rfl⟩)
        go_round
        case rel => exact ⟨i + 1, by go_num, by omega, hn.out⟩
        case measure => simp [RowKit.intOf]; omega
      · have hfin : IxP s.data.toList cs.data.toList (.returned (.int .i64 (i : Int))) := by unfold IxP; rw [Lib.indexAny_hit hen'.out hxg hx]
        have hfin' := Lib.hid hfin
        have cC1 := cC true hx
        clear hfin hx hxg cC
        go_wp2_with (go_at_call 141; refine cC1.mono ?_; rintro e w' ⟨rfl, rfl⟩)
        go_ret
        exact ⟨hfin'.out, hbw⟩
    · have hfin : IxP s.data.toList cs.data.toList (.returned (.int .i64 (-1))) := by
        have h := hen'.out
        unfold IxP
        rw [Lib.indexAny_none (fun j b hj hb => h j b (by rw [← Lib.size_eq] at hj; omega) hb)]
      have hfin' := Lib.hid hfin
      clear hfin
      go_wp2
      go_ret
      exact ⟨hfin'.out, hbw⟩

theorem indexAny_all (s cs : ByteArray) (ha : Asc cs) (h2 : 2 ≤ cs.size) (hbig : cs.size ≤ 64) (w : World) (hs : s.size ≤ 9223372036854775807) :
    Calls Tryz.prog 123 #[.string s, .string cs] w fun e w' => e = .returned (.int .i64 (Lib.indexAny s.data.toList cs.data.toList)) ∧ Below w.heap.size w w' := by
  by_cases h8 : s.size ≤ 8
  · exact indexAny_short s cs ha h2 hbig w h8
  · exact indexAny_long s cs ha h2 hbig w (by omega) hs

set_option maxHeartbeats 2000000 in
set_option maxRecDepth 100000 in
theorem containsAny_all (s cs : ByteArray) (ha : Asc cs) (h2 : 2 ≤ cs.size) (hbig : cs.size ≤ 64) (w : World) (hs : s.size ≤ 9223372036854775807) :
    Calls Tryz.prog 103 #[.string s, .string cs] w fun e w' => e = .returned (.bool (Lib.containsAny s.data.toList cs.data.toList)) ∧ Below w.heap.size w w' := by
  obtain ⟨E, hE⟩ : ∃ E, Lib.indexAny s.data.toList cs.data.toList = E := ⟨_, rfl⟩
  have cI := fun W => indexAny_all s cs ha h2 hbig W hs
  unfold Lib.containsAny
  rw [hE] at cI ⊢
  clear hE ha
  go_enter Tryz.func103, Tryz.ntmps103
  go_wp2_with (go_at_call 123; refine (cI _).mono ?_; rintro e w3 ⟨rfl, hb3⟩)
  go_ret
  exact ⟨rfl, hb3⟩
/-- one byte is looked for -/
theorem containsAny_one (s cs : ByteArray) (ha : Asc cs) (h1 : cs.size = 1) (w : World) :
    Calls Tryz.prog 103 #[.string s, .string cs] w fun e w' => e = .returned (.bool (Lib.containsAny s.data.toList cs.data.toList)) ∧ Below w.heap.size w w' := by
  obtain ⟨E, hE⟩ : ∃ E, Lib.indexAny s.data.toList cs.data.toList = E := ⟨_, rfl⟩
  have cI := fun W => Tryz.strings_IndexAny_one s cs W h1 ha
  unfold Lib.containsAny
  rw [hE] at cI ⊢
  clear hE ha h1
  go_enter Tryz.func103, Tryz.ntmps103
  go_wp2_with (go_at_call 123; refine (cI _).mono ?_; rintro e w3 ⟨rfl, rfl⟩)
  go_ret
  exact ⟨rfl, Below.refl _ _⟩
theorem contains_any (l cs : List UInt8) : Lib.containsAny l cs = l.any fun b => cs.contains b := by
  unfold Lib.containsAny
  induction l with
  | nil => rfl
  | cons b l ih =>
    have hge := Lib.indexAny_ge cs l
    rw [Lib.indexAny, List.any_cons, ← ih]
    cases hb : cs.contains b
    · simp only [Bool.false_or, Bool.false_eq_true, if_false]
      by_cases h : Lib.indexAny l cs = -1
      · simp [h]
      · have h1 : (Lib.indexAny l cs == -1) = false := by simpa using h
        simp only [h1, Bool.false_eq_true, if_false]
        rw [decide_eq_true (show (0 : Int) ≤ Lib.indexAny l cs + 1 by omega), decide_eq_true (show (0 : Int) ≤ Lib.indexAny l cs by omega)]
    · simp
end Go.Proofs.YthnnpnlapjlnoaaGreatDoor.An

/-
  THE WALKS OF LETTERS: char.Lower, char.Upper, the reference's Lower and Upper, char.Same: for every string that a slice of bytes can hold.
-/
set_option linter.unusedVariables false
namespace Go.Proofs.YthnnpnlapjlnoaaGreatDoor.Ch
open Go.Lib Go.RowKit

/-! ### a row of bytes that is gone through -/
/-- The first k bytes of the row are f of those of s, the others are r's; below the row's block nothing has changed. -/
def RowF (f : UInt8 → UInt8) (r : Nat → UInt8) (s : ByteArray) (B k : Nat) (w0 w : World) : Prop :=
  Below B w0 w ∧ B < w.heap.size ∧ ∀ j (hj : j < s.data.size), w.cell? ⟨B, j, none⟩ = some (.int .u8 ((if j < k then f s.data[j] else r j).toNat : Int)) ∧ w.frozen? ⟨B, j, none⟩ = false
def rest (s : ByteArray) (j : Nat) : UInt8 := s.data[j]?.getD 0
theorem rest_at (s : ByteArray) (j : Nat) (hj : j < s.data.size) : rest s j = s.data[j] := by unfold rest; rw [Array.getElem?_eq_getElem hj]; rfl
theorem rowF_start (f : UInt8 → UInt8) (s : ByteArray) (w : World) (C : Array Value) (t : TypeId) (hC : ∀ j (hj : j < s.data.size), C[j]? = some (.int .u8 (s.data[j].toNat : Int))) (hsz : s.data.size ≤ C.size) :
    RowF f (rest s) s w.heap.size 0 w (w.alloc (.cells C t (C.size, C.size + 1))).drew := by
  refine ⟨((Below.refl _ _).alloc (Nat.le_refl _) _).drew, by simp, fun j hj => ⟨?_, ?_⟩⟩
  · show (w.alloc (.cells C t (C.size, C.size + 1))).cell? _ = _
    rw [World.cell?_alloc_mark, hC j hj, if_neg (Nat.not_lt_zero j), rest_at s j hj]
  · show (w.alloc (.cells C t (C.size, C.size + 1))).frozen? _ = _
    rw [World.frozen?_alloc_mark]
    simp
    omega
theorem rowF_made (f : UInt8 → UInt8) (s : ByteArray) (w w' : World) (t : TypeId) (hown : w'.ownsRow w.heap.size t 1 (.slice (some ⟨w.heap.size, 0, none⟩) s.data.size s.data.size) s.data.size (madeCells (Value.int .u8 0).cells (s.data.size * 1)).toList) (hg : w.grownBy w' none) :
    RowF f (fun _ => 0) s w.heap.size 0 w w' := by
  have hlt : w.heap.size < w'.heap.size := by
    rcases hown.2 with ⟨h', _⟩ | ⟨g', cap', cur, h', _, hg', _⟩
    · cases h'
    · injection h' with h1 _ _
      injection h1 with h1
      injection h1 with h1
      subst h1
      rcases Nat.lt_or_ge w.heap.size w'.heap.size with h | h
      · exact h
      · rw [Array.getElem?_eq_none h] at hg'; cases hg'
  refine ⟨(Below.refl _ _).grown hg (Nat.le_refl _) (fun _ h => by cases h), hlt, fun j hj => ⟨?_, hown.frozenAt j⟩⟩
  rw [hown.cellAt j (by omega), show (Value.int .u8 0).cells = #[Value.int .u8 0] from rfl, toList_madeCells_one, List.getElem?_replicate, if_pos (by rw [Nat.mul_one]; exact hj)]
  simp
theorem rowF_get {f : UInt8 → UInt8} {r : Nat → UInt8} {s : ByteArray} {B k : Nat} {w0 w : World} (h : RowF f r s B k w0 w) (hk : k < s.data.size) :
    w.cell? ⟨B, k, none⟩ = some (.int .u8 ((r k).toNat : Int)) ∧ w.frozen? ⟨B, k, none⟩ = false := by
  have := h.2.2 k hk
  rwa [if_neg (Nat.lt_irrefl k)] at this
theorem rowF_skip {f : UInt8 → UInt8} {r : Nat → UInt8} {s : ByteArray} {B k : Nat} {w0 w : World} (h : RowF f r s B k w0 w) (hk : k < s.data.size) (hf : f s.data[k] = r k) : RowF f r s B (k + 1) w0 w := by
  refine ⟨h.1, h.2.1, fun j hj => ?_⟩
  have := h.2.2 j hj
  by_cases hjk : j = k
  · subst hjk
    rw [if_neg (Nat.lt_irrefl j)] at this
    rw [if_pos (by omega), hf]
    exact this
  · by_cases hlt : j < k
    · rw [if_pos hlt] at this; rw [if_pos (by omega)]; exact this
    · rw [if_neg hlt] at this; rw [if_neg (by omega)]; exact this
theorem rowF_put {f : UInt8 → UInt8} {r : Nat → UInt8} {s : ByteArray} {B k : Nat} {w0 w : World} (h : RowF f r s B k w0 w) (hk : k < s.data.size) (z : Int) (hz : ((f s.data[k]).toNat : Int) = z) (hB : B = w0.heap.size) : RowF f r s B (k + 1) w0 (w.setCell ⟨B, k, none⟩ (.int .u8 z)) := by
  refine ⟨h.1.setCell (by subst hB; exact Nat.le_refl _) _, by simpa using h.2.1, fun j hj => ?_⟩
  have := h.2.2 j hj
  rw [World.frozen?_setCell]
  by_cases hjk : j = k
  · subst hjk
    rw [World.cell?_setCell_same _ _ _ this.1, if_pos (by omega), hz]
    exact ⟨rfl, this.2⟩
  · rw [World.cell?_setCell_other _ _ _ _ (by simp)]
    by_cases hlt : j < k
    · rw [if_pos hlt] at this; rw [if_pos (by omega)]; exact this
    · rw [if_neg hlt] at this; rw [if_neg (by omega)]; exact this
/-- Written twice at one place. -/
theorem rowF_put2 {f : UInt8 → UInt8} {r : Nat → UInt8} {s : ByteArray} {B k : Nat} {w0 w : World} (h : RowF f r s B k w0 w) (hk : k < s.data.size) (u : Value) (z : Int) (hz : ((f s.data[k]).toNat : Int) = z) (hB : B = w0.heap.size) : RowF f r s B (k + 1) w0 ((w.setCell ⟨B, k, none⟩ u).setCell ⟨B, k, none⟩ (.int .u8 z)) := by
  refine ⟨(h.1.setCell (by subst hB; exact Nat.le_refl _) _).setCell (by subst hB; exact Nat.le_refl _) _, by simpa using h.2.1, fun j hj => ?_⟩
  have := h.2.2 j hj
  rw [World.frozen?_setCell, World.frozen?_setCell]
  by_cases hjk : j = k
  · subst hjk
    rw [World.cell?_setCell_same _ _ _ (World.cell?_setCell_same _ _ _ this.1), if_pos (by omega), hz]
    exact ⟨rfl, this.2⟩
  · rw [World.cell?_setCell_other _ _ _ _ (by simp), World.cell?_setCell_other _ _ _ _ (by simp)]
    by_cases hlt : j < k
    · rw [if_pos hlt] at this; rw [if_pos (by omega)]; exact this
    · rw [if_neg hlt] at this; rw [if_neg (by omega)]; exact this
theorem rowF_text {f : UInt8 → UInt8} {r : Nat → UInt8} {s : ByteArray} {B : Nat} {w0 w : World} (h : RowF f r s B s.data.size w0 w) (cap : Nat) :
    (convert 72 9 (.slice (some ⟨B, 0, none⟩) s.data.size cap)).run Tryz.prog w = .ok (.string ⟨(s.data.toList.map f).toArray⟩) w := by
  have := run_convert_bytes_back (P := Tryz.prog) w 72 9 5 ⟨B, 0, none⟩ cap (s.data.toList.map f) Tryz.underlying72 Tryz.underlying5 Tryz.underlying9 (fun j hj => by
    have hj' : j < s.data.size := by simpa using hj
    have := (h.2.2 j hj').1
    rw [if_pos hj'] at this
    have e : (⟨B, 0, none⟩ : Addr).add j = ⟨B, j, none⟩ := Lib.add_plain B 0 j |>.trans (by rw [Nat.zero_add])
    rw [e, this]
    simp)
  rwa [List.length_map, Array.length_toList] at this
/-- '[]byte(s)': what it lays. -/
theorem bytes_new (w : World) (s : ByteArray) : ∃ (cap : Nat) (C : Array Value),
    (convert 9 72 (.string s)).run Tryz.prog w = .ok (.slice (some ⟨w.heap.size, 0, none⟩) s.size cap) (w.drew.alloc (.cells C 5 (C.size, C.size + 1))) ∧
    (∀ j (hj : j < s.data.size), C[j]? = some (.int .u8 (s.data[j].toNat : Int))) ∧ s.data.size ≤ C.size := by
  refine ⟨_, _, run_bytes_of_string w 9 72 5 s Tryz.underlying9 Tryz.underlying72 Tryz.underlying5, fun j hj => bytesRow_at s _ j hj, ?_⟩
  simp [bytesRow]
theorem info_u8 : (Tryz.prog.info? 5).map (fun i => (i.zero, i.size, i.bytes)) = some (some (.int .u8 0), 1, 1) := by kernel_rfl
/-- 'make([]byte, n)': what it lays. -/
theorem bytes_made (f : UInt8 → UInt8) (w : World) (s : ByteArray) (hs : s.size ≤ 281474976710656) : ∃ w',
    (Instr.makeSlice 72 (.int .i64 (s.data.size : Int)) (.int .i64 (s.data.size : Int))).run Tryz.prog w = .ok (.slice (some ⟨w.heap.size, 0, none⟩) s.data.size s.data.size) w' ∧ RowF f (fun _ => 0) s w.heap.size 0 w w' := by
  obtain ⟨i0, hi, hz0, hz1, hz2⟩ := info_parts info_u8
  have hss : s.size = s.data.size := rfl
  obtain ⟨w', h1, h2, h3⟩ := run_make_full (P := Tryz.prog) w w.heap.size 72 5 i0 (.int .u8 0) 1 Tryz.underlying72 hi hz0 hz1 .i64 .i64 s.data.size (by rw [hz2]; omega) (by unfold maxLen; omega) (Nat.le_refl _)
  exact ⟨w', h1, rowF_made f s w w' _ h2 h3⟩

set_option maxHeartbeats 1000000 in
set_option maxRecDepth 100000 in
theorem lower_any (s : ByteArray) (w : World) (hs : s.size ≤ 9223372036854775807) :
    Calls Tryz.prog 70 #[.string s] w fun e w' => e = .returned (.string ⟨(low s.data.toList).toArray⟩) ∧ Below w.heap.size w w' := by
  obtain ⟨cap, C, hconv, hC, hCs⟩ := bytes_new w s
  have hst := rowF_start lowB s w C 5 hC hCs
  have hst' := Lib.hid hst
  have hss : s.size = s.data.size := rfl
  obtain ⟨n, hn⟩ : ∃ n, s.data.size = n := ⟨_, rfl⟩
  have hsz : s.size = n := hn
  clear hC hCs hst
  rw [hsz] at hconv hs
  have hn' := Lib.hid hn
  clear hn hss hsz
  go_enter Tryz.func70, Tryz.ntmps70
  go_wp2
  go_loopw [10] (fun i wr => ∃ k : Nat, k ≤ n ∧ i = .int .i64 k ∧ RowF lowB (rest s) s w.heap.size k w wr) (fun i _ => n - (RowKit.intOf i).toNat)
  case atStart => exact ⟨0, Nat.zero_le _, rfl, hst'.out⟩
  case round =>
    obtain ⟨k, hk, rfl, hrow⟩ := hrel
    by_cases hlt : k < n
    · have hkd : k < s.data.size := by rw [hn'.out]; exact hlt
      have hgd : rest s k = s.data[k] := rest_at s k hkd
      obtain ⟨x, hx⟩ : ∃ x, s.data[k] = x := ⟨_, rfl⟩
      obtain ⟨g1, g2⟩ := rowF_get hrow hkd
      rw [hgd, hx] at g1
      have hx' := Lib.hid hx
      have hgd' := Lib.hid hgd
      have hxl := x.toNat_lt
      have HR := Lib.hid hrow
      clear hx hrow hgd
      by_cases h1 : 65 ≤ x.toNat
      · by_cases h2 : x.toNat ≤ 90
        · go_wp2
          go_roundw
          case rel => exact ⟨k + 1, by omega, by go_num, rowF_put HR.out hkd _ (by rw [hx'.out, lowB_yes x h1 h2]; omega) rfl⟩
          case measure => simp [RowKit.intOf]; omega
        · go_wp2
          go_roundw
          case rel => exact ⟨k + 1, by omega, by go_num, rowF_skip HR.out hkd (by rw [hgd'.out, hx'.out]; exact lowB_no x (by omega))⟩
          case measure => simp [RowKit.intOf]; omega
      · go_wp2
        go_roundw
        case rel => exact ⟨k + 1, by omega, by go_num, rowF_skip HR.out hkd (by rw [hgd'.out, hx'.out]; exact lowB_no x (by omega))⟩
        case measure => simp [RowKit.intOf]; omega
    · obtain rfl : k = n := by omega
      have ht := rowF_text (s := s) (by rw [hn'.out]; exact hrow) cap
      rw [hn'.out] at ht
      have hb := hrow.1
      clear hrow
      go_wp2
      go_ret
      exact ⟨rfl, hb⟩

set_option maxHeartbeats 1000000 in
set_option maxRecDepth 100000 in
theorem upper_any (s : ByteArray) (w : World) (hs : s.size ≤ 9223372036854775807) :
    Calls Tryz.prog 47 #[.string s] w fun e w' => e = .returned (.string ⟨(up s.data.toList).toArray⟩) ∧ Below w.heap.size w w' := by
  obtain ⟨cap, C, hconv, hC, hCs⟩ := bytes_new w s
  have hst := rowF_start upB s w C 5 hC hCs
  have hst' := Lib.hid hst
  have hss : s.size = s.data.size := rfl
  obtain ⟨n, hn⟩ : ∃ n, s.data.size = n := ⟨_, rfl⟩
  have hsz : s.size = n := hn
  clear hC hCs hst
  rw [hsz] at hconv hs
  have hn' := Lib.hid hn
  clear hn hss hsz
  go_enter Tryz.func47, Tryz.ntmps47
  go_wp2
  go_loopw [10] (fun i wr => ∃ k : Nat, k ≤ n ∧ i = .int .i64 k ∧ RowF upB (rest s) s w.heap.size k w wr) (fun i _ => n - (RowKit.intOf i).toNat)
  case atStart => exact ⟨0, Nat.zero_le _, rfl, hst'.out⟩
  case round =>
    obtain ⟨k, hk, rfl, hrow⟩ := hrel
    by_cases hlt : k < n
    · have hkd : k < s.data.size := by rw [hn'.out]; exact hlt
      have hgd : rest s k = s.data[k] := rest_at s k hkd
      obtain ⟨x, hx⟩ : ∃ x, s.data[k] = x := ⟨_, rfl⟩
      obtain ⟨g1, g2⟩ := rowF_get hrow hkd
      rw [hgd, hx] at g1
      have hx' := Lib.hid hx
      have hgd' := Lib.hid hgd
      have hxl := x.toNat_lt
      have HR := Lib.hid hrow
      clear hx hrow hgd
      by_cases h1 : 97 ≤ x.toNat
      · by_cases h2 : x.toNat ≤ 122
        · go_wp2
          go_roundw
          case rel => exact ⟨k + 1, by omega, by go_num, rowF_put HR.out hkd _ (by rw [hx'.out, upB_yes x h1 h2]; omega) rfl⟩
          case measure => simp [RowKit.intOf]; omega
        · go_wp2
          go_roundw
          case rel => exact ⟨k + 1, by omega, by go_num, rowF_skip HR.out hkd (by rw [hgd'.out, hx'.out]; exact upB_no x (by omega))⟩
          case measure => simp [RowKit.intOf]; omega
      · go_wp2
        go_roundw
        case rel => exact ⟨k + 1, by omega, by go_num, rowF_skip HR.out hkd (by rw [hgd'.out, hx'.out]; exact upB_no x (by omega))⟩
        case measure => simp [RowKit.intOf]; omega
    · obtain rfl : k = n := by omega
      have ht := rowF_text (s := s) (by rw [hn'.out]; exact hrow) cap
      rw [hn'.out] at ht
      have hb := hrow.1
      clear hrow
      go_wp2
      go_ret
      exact ⟨rfl, hb⟩

set_option maxHeartbeats 1000000 in
set_option maxRecDepth 100000 in
theorem refLower_any (s : ByteArray) (w : World) (hs : s.size ≤ 281474976710656) :
    Calls Tryz.prog 20 #[.string s] w fun e w' => e = .returned (.string ⟨(low s.data.toList).toArray⟩) ∧ Below w.heap.size w w' := by
  obtain ⟨w1, hmk, hst⟩ := bytes_made lowB w s hs
  have hst' := Lib.hid hst
  have hss : s.size = s.data.size := rfl
  obtain ⟨n, hn⟩ : ∃ n, s.data.size = n := ⟨_, rfl⟩
  have hsz : s.size = n := hn
  have hs' : n ≤ 9223372036854775807 := by omega
  clear hst hs
  rw [hn] at hmk
  have hn' := Lib.hid hn
  clear hn hss
  go_enter Tryz.func20, Tryz.ntmps20
  go_wp2
  go_loopw [10] (fun i wr => ∃ k : Nat, k ≤ n ∧ i = .int .i64 k ∧ RowF lowB (fun _ => 0) s w.heap.size k w wr) (fun i _ => n - (RowKit.intOf i).toNat)
  case atStart => exact ⟨0, Nat.zero_le _, rfl, hst'.out⟩
  case round =>
    obtain ⟨k, hk, rfl, hrow⟩ := hrel
    by_cases hlt : k < n
    · have hkd : k < s.data.size := by rw [hn'.out]; exact hlt
      obtain ⟨x, hx⟩ : ∃ x, s.data[k] = x := ⟨_, rfl⟩
      obtain ⟨g1, g2⟩ := rowF_get hrow hkd
      have hxl := x.toNat_lt
      have HR := Lib.hid hrow
      clear hrow
      have hsk : s[k]'(hkd) = s.data[k] := rfl
      have hsk' := Lib.hid hsk
      clear hsk hx
      go_wp2
      · have c1 : 65 ≤ (s[k]'(hkd)).toNat := by omega
        have c2 : (s[k]'(hkd)).toNat ≤ 90 := by omega
        go_roundw
        case rel => exact ⟨k + 1, by omega, by go_num, rowF_put2 HR.out hkd _ _ (by rw [← hsk'.out, lowB_yes _ c1 c2]; omega) rfl⟩
        case measure => simp [RowKit.intOf]; omega
      · have c2 : ¬ (s[k]'(hkd)).toNat ≤ 90 := by omega
        go_roundw
        case rel => exact ⟨k + 1, by omega, by go_num, rowF_put HR.out hkd _ (by rw [← hsk'.out, lowB_no _ (fun h => c2 h.2)]) rfl⟩
        case measure => simp [RowKit.intOf]; omega
      · have c1 : ¬ 65 ≤ (s[k]'(hkd)).toNat := by omega
        go_roundw
        case rel => exact ⟨k + 1, by omega, by go_num, rowF_put HR.out hkd _ (by rw [← hsk'.out, lowB_no _ (fun h => c1 h.1)]) rfl⟩
        case measure => simp [RowKit.intOf]; omega
    · obtain rfl : k = n := by omega
      have ht := rowF_text (s := s) (by rw [hn'.out]; exact hrow) k
      rw [hn'.out] at ht
      have hb := hrow.1
      clear hrow
      go_wp2
      go_ret
      exact ⟨rfl, hb⟩

set_option maxHeartbeats 1000000 in
set_option maxRecDepth 100000 in
theorem refUpper_any (s : ByteArray) (w : World) (hs : s.size ≤ 281474976710656) :
    Calls Tryz.prog 22 #[.string s] w fun e w' => e = .returned (.string ⟨(up s.data.toList).toArray⟩) ∧ Below w.heap.size w w' := by
  obtain ⟨w1, hmk, hst⟩ := bytes_made upB w s hs
  have hst' := Lib.hid hst
  have hss : s.size = s.data.size := rfl
  obtain ⟨n, hn⟩ : ∃ n, s.data.size = n := ⟨_, rfl⟩
  have hsz : s.size = n := hn
  have hs' : n ≤ 9223372036854775807 := by omega
  clear hst hs
  rw [hn] at hmk
  have hn' := Lib.hid hn
  clear hn hss
  go_enter Tryz.func22, Tryz.ntmps22
  go_wp2
  go_loopw [10] (fun i wr => ∃ k : Nat, k ≤ n ∧ i = .int .i64 k ∧ RowF upB (fun _ => 0) s w.heap.size k w wr) (fun i _ => n - (RowKit.intOf i).toNat)
  case atStart => exact ⟨0, Nat.zero_le _, rfl, hst'.out⟩
  case round =>
    obtain ⟨k, hk, rfl, hrow⟩ := hrel
    by_cases hlt : k < n
    · have hkd : k < s.data.size := by rw [hn'.out]; exact hlt
      obtain ⟨x, hx⟩ : ∃ x, s.data[k] = x := ⟨_, rfl⟩
      obtain ⟨g1, g2⟩ := rowF_get hrow hkd
      have hxl := x.toNat_lt
      have HR := Lib.hid hrow
      clear hrow
      have hsk : s[k]'(hkd) = s.data[k] := rfl
      have hsk' := Lib.hid hsk
      clear hsk hx
      go_wp2
      · have c1 : 97 ≤ (s[k]'(hkd)).toNat := by omega
        have c2 : (s[k]'(hkd)).toNat ≤ 122 := by omega
        go_roundw
        case rel => exact ⟨k + 1, by omega, by go_num, rowF_put2 HR.out hkd _ _ (by rw [← hsk'.out, upB_yes _ c1 c2]; omega) rfl⟩
        case measure => simp [RowKit.intOf]; omega
      · have c2 : ¬ (s[k]'(hkd)).toNat ≤ 122 := by omega
        go_roundw
        case rel => exact ⟨k + 1, by omega, by go_num, rowF_put HR.out hkd _ (by rw [← hsk'.out, upB_no _ (fun h => c2 h.2)]) rfl⟩
        case measure => simp [RowKit.intOf]; omega
      · have c1 : ¬ 97 ≤ (s[k]'(hkd)).toNat := by omega
        go_roundw
        case rel => exact ⟨k + 1, by omega, by go_num, rowF_put HR.out hkd _ (by rw [← hsk'.out, upB_no _ (fun h => c1 h.1)]) rfl⟩
        case measure => simp [RowKit.intOf]; omega
    · obtain rfl : k = n := by omega
      have ht := rowF_text (s := s) (by rw [hn'.out]; exact hrow) k
      rw [hn'.out] at ht
      have hb := hrow.1
      clear hrow
      go_wp2
      go_ret
      exact ⟨rfl, hb⟩

set_option maxHeartbeats 1000000 in
set_option maxRecDepth 100000 in
theorem same_any (s t : ByteArray) (w : World) (hs : s.size ≤ 9223372036854775807) (ht : t.size ≤ 9223372036854775807) :
    Calls Tryz.prog 41 #[.string s, .string t] w fun e w' => e = .returned (.bool (low s.data.toList == low t.data.toList)) ∧ Below w.heap.size w w' := by
  go_enter Tryz.func41, Tryz.ntmps41
  go_wp2_with fail
  go_at_call 70
  refine (lower_any s w hs).mono ?_
  rintro e w1 ⟨rfl, hb1⟩
  go_wp2_with fail
  go_at_call 70
  refine (lower_any t w1 ht).mono ?_
  rintro e w2 ⟨rfl, hb2⟩
  go_wp2
  go_ret
  exact ⟨rfl, hb1.trans (hb2.mono (Nat.le_of_lt_succ (Nat.lt_succ_of_le hb1.size)))⟩
end Go.Proofs.YthnnpnlapjlnoaaGreatDoor.Ch

/-
  THE WALKS OF TEXTS: char.control, char.Valid (utf8.ValidString by the shelf's contract), the reference's Rune and Valid.
-/
set_option linter.unusedVariables false
namespace Go.Proofs.YthnnpnlapjlnoaaGreatDoor.Ch
open Go.Lib Go.RowKit Go.Shelf

def Tabs (w : World) : Prop := Lib.Utf8Tabs (Tryz.laysValid_ren.g 3) (Tryz.laysValid_ren.g 4) w
theorem tabs_below {w w' : World} (h : Tabs w) (hb : Below w.heap.size w w') : Tabs w' := Utf8Tabs_below h hb

set_option maxHeartbeats 1000000 in
set_option maxRecDepth 100000 in
theorem control_any (x : UInt8) (w : World) : Calls Tryz.prog 44 #[.int .u8 (x.toNat : Int)] w fun e w' => e = .returned (.bool (ctl x)) ∧ w = w' := by
  have hx := x.toNat_lt
  unfold ctl
  generalize x.toNat = v at hx ⊢
  by_cases c1 : v = 9
  · subst c1
    go_enter Tryz.func44, Tryz.ntmps44
    go_wp2
    go_ret
    exact ⟨rfl, rfl⟩
  by_cases c2 : v = 10
  · subst c2
    go_enter Tryz.func44, Tryz.ntmps44
    go_wp2
    go_ret
    exact ⟨rfl, rfl⟩
  by_cases c3 : v = 13
  · subst c3
    go_enter Tryz.func44, Tryz.ntmps44
    go_wp2
    go_ret
    exact ⟨rfl, rfl⟩
  by_cases c4 : v = 127
  · subst c4
    go_enter Tryz.func44, Tryz.ntmps44
    go_wp2
    go_ret
    exact ⟨rfl, rfl⟩
  rw [if_neg (by omega), if_neg c4]
  by_cases c5 : v < 32
  · have d1 : ((v : Int) == 9) = false := by simp; omega
    have d2 : ((v : Int) == 10) = false := by simp; omega
    have d3 : ((v : Int) == 13) = false := by simp; omega
    have d4 : ((v : Int) == 127) = false := by simp; omega
    have d5 : decide ((v : Int) < 32) = true := by simp; omega
    rw [decide_eq_true c5]
    go_enter Tryz.func44, Tryz.ntmps44
    go_wp2
    go_ret
    exact ⟨rfl, rfl⟩
  · have d1 : ((v : Int) == 9) = false := by simp; omega
    have d2 : ((v : Int) == 10) = false := by simp; omega
    have d3 : ((v : Int) == 13) = false := by simp; omega
    have d4 : ((v : Int) == 127) = false := by simp; omega
    have d5 : decide ((v : Int) < 32) = false := by simp; omega
    rw [decide_eq_false c5]
    go_enter Tryz.func44, Tryz.ntmps44
    go_wp2
    go_ret
    exact ⟨rfl, rfl⟩

theorem clean_take (l : List UInt8) (k : Nat) (hk : k < l.length) (h : clean (l.take k) = true) (hc : ctl l[k] = false) : clean (l.take (k + 1)) = true := by
  rw [List.take_succ_eq_append_getElem hk, clean_append, h]
  simp [clean, hc]
theorem clean_not (l : List UInt8) (k : Nat) (hk : k < l.length) (hc : ctl l[k] = true) : clean l = false := by
  unfold clean
  rw [Bool.eq_false_iff]
  intro h
  rw [List.all_eq_true] at h
  have := h _ (List.getElem_mem hk)
  rw [hc] at this
  exact absurd this (by decide)

set_option maxHeartbeats 1000000 in
set_option maxRecDepth 100000 in
theorem valid_any (s : ByteArray) (w : World) (hs : s.size ≤ 9223372036854775807) (hT : Tabs w) :
    Calls Tryz.prog 23 #[.string s] w fun e w' => e = .returned (.bool (valid s.data.toList)) ∧ Below w.heap.size w w' := by
  have cV : Calls Tryz.prog 43 #[.string s] w _ := Any.utf8_ValidString Tryz.laysValid s w hs hT
  unfold valid
  obtain ⟨V, hV⟩ : ∃ V, validD s.data.toList = V := ⟨_, rfl⟩
  rw [hV] at cV ⊢
  clear hV hT
  cases V
  · go_enter Tryz.func23, Tryz.ntmps23
    go_wp2_with (go_at_call 43; refine cV.mono ?_; rintro e w' ⟨rfl, hb⟩)
    go_ret
    exact ⟨rfl, hb⟩
  · rw [Bool.true_and]
    go_enter Tryz.func23, Tryz.ntmps23
    go_wp2_with (go_at_call 43; refine cV.mono ?_; rintro e w1 ⟨rfl, hb⟩)
    clear cV
    go_loop [3] (fun i => ∃ k : Nat, k ≤ s.size ∧ i = .int .i64 k ∧ clean (s.data.toList.take k) = true) (fun i => s.size - (RowKit.intOf i).toNat)
    case atStart => exact ⟨0, Nat.zero_le _, rfl, rfl⟩
    case round =>
      obtain ⟨k, hk, rfl, hcl⟩ := hrel
      have hcl' := Lib.hid hcl
      clear hcl
      by_cases hlt : k < s.size
      · have hkl : k < s.data.toList.length := by simpa using hlt
        have hsk := Lib.hid (show s[k]'hlt = s.data.toList[k]'hkl by simp; rfl)
        by_cases hc : ctl (s[k]'hlt) = true
        · have hno := Lib.hid (clean_not s.data.toList k hkl (by rw [← hsk.out]; exact hc))
          go_wp2_with (go_at_call 44; refine (control_any _ _).mono ?_; rintro e w' ⟨rfl, rfl⟩)
          go_ret
          exact ⟨by rw [hno.out]; rfl, hb⟩
        · rw [Bool.not_eq_true] at hc
          have hyes := Lib.hid (clean_take s.data.toList k hkl hcl'.out (by rw [← hsk.out]; exact hc))
          go_wp2_with (go_at_call 44; refine (control_any _ _).mono ?_; rintro e w' ⟨rfl, rfl⟩)
          go_round
          case rel => exact ⟨k + 1, by omega, by go_num, hyes.out⟩
          case measure => simp [RowKit.intOf]; omega
      · have hks : k = s.size := by omega
        have hfin := Lib.hid (show clean s.data.toList = true by
          have h := hcl'.out
          rwa [List.take_of_length_le (by rw [← Lib.size_eq]; omega)] at h)
        clear hks
        go_wp2
        go_ret
        exact ⟨by rw [hfin.out]; rfl, hb⟩
end Go.Proofs.YthnnpnlapjlnoaaGreatDoor.Ch

/-
  WALKS OF line.cutNames, strings.Cut at one byte, line.cutValue, escaped, meant, plain.
-/
set_option linter.unusedVariables false
namespace Go.Proofs.YthnnpnlapjlnoaaGreatDoor.Li
open Go.Lib Go.RowKit Bu

theorem results_tmp4 {fn : Func} {t u v x : Tmp} (h : fn.results = #[.tmp t, .tmp u, .tmp v, .tmp x]) (tmps : Array Value) (P : Program) (w : World) :
    (results fn tmps).run P w = .ok (.tuple #[tmps.getD t undef, tmps.getD u undef, tmps.getD v undef, tmps.getD x undef]) w := by simp [results, h]

/-- what cutNames answers -/
def CutNamesP (t : Row) (e : Ending) : Prop :=
  (namesC t = none ∧ e = .returned (.tuple #[.string ⟨#[]⟩, .string ⟨#[]⟩, .string ⟨#[]⟩, .bool false])) ∨
  ∃ g n r : ByteArray, namesC t = some (g.data.toList, n.data.toList, r.data.toList) ∧ e = .returned (.tuple #[.string g, .string n, .string r, .bool true])

theorem nameC_len {l : Row} {n r : ByteArray} (h : nameC l = some (n.data.toList, r.data.toList)) : n.size + r.size = l.length := by
  have := congrArg List.length (nameC_some h).1
  rw [List.length_append] at this
  rw [Lib.size_eq, Lib.size_eq]; omega

set_option maxHeartbeats 4000000 in
set_option maxRecDepth 100000 in
theorem cutNames_any (s : ByteArray) (w : World) (hs : s.size ≤ 9223372036854775807) :
    Calls Tryz.prog 75 #[.string s] w fun e w' => CutNamesP s.data.toList e ∧ Below w.heap.size w w' := by
  go_enter Tryz.func75, Tryz.ntmps75
  go_wp2_with fail
  go_at_call 104
  refine (cutName_any s w hs).mono ?_
  rintro e w1 ⟨hc, hb⟩
  rcases hc with ⟨h1, rfl⟩ | ⟨n, r, h1, rfl⟩
  · have hfin : CutNamesP s.data.toList (.returned (.tuple #[.string ⟨#[]⟩, .string ⟨#[]⟩, .string ⟨#[]⟩, .bool false])) := .inl ⟨by unfold namesC; rw [h1], rfl⟩
    have hfin' := Lib.hid hfin
    clear hfin h1
    go_wp2
    refine bodyPost_ret (results_tmp4 rfl _ _ _) rfl ?_
    exact ⟨hfin'.out, hb⟩
  · have hrs : r.size ≤ 9223372036854775807 := by have := nameC_len h1; have := Lib.size_eq s; omega
    by_cases h46 : r.data.toList.head? = some 46
    · have hfin0 : nameC r.data.toList.tail = none → CutNamesP s.data.toList (.returned (.tuple #[.string ⟨#[]⟩, .string ⟨#[]⟩, .string ⟨#[]⟩, .bool false])) := fun h2 => .inl ⟨by unfold namesC; rw [h1]; dsimp only; rw [if_pos h46, h2]; rfl, rfl⟩
      have hfin1 : ∀ m q : ByteArray, nameC r.data.toList.tail = some (m.data.toList, q.data.toList) → CutNamesP s.data.toList (.returned (.tuple #[.string n, .string m, .string q, .bool true])) := fun m q h2 => .inr ⟨n, m, q, by unfold namesC; rw [h1]; dsimp only; rw [if_pos h46, h2]; rfl, rfl⟩
      have hfin0' := Lib.hid hfin0
      have hfin1' := Lib.hid hfin1
      have cH := fun W => hasPre_is r 46 true W (decide_eq_true h46)
      have hr1 := size_pos r h46
      clear hfin0 hfin1 h1 h46
      go_wp2_with (go_at_call 105; refine (cH _).mono ?_; rintro e w' ⟨rfl, rfl⟩)
      go_at_call 104
      refine (cutName_any (r.extract 1 r.size) _ (by rw [Lib.size_eq, cut_tail, List.length_tail, ← Lib.size_eq]; omega)).mono ?_
      rintro e w2 ⟨hc, hb2⟩
      rw [cut_tail] at hc
      rcases hc with ⟨h1, rfl⟩ | ⟨m, q, h1, rfl⟩
      · have hf := Lib.hid (hfin0'.out h1)
        clear h1
        go_wp2
        refine bodyPost_ret (results_tmp4 rfl _ _ _) rfl ?_
        exact ⟨hf.out, below_then hb hb2⟩
      · have hf := Lib.hid (hfin1'.out m q h1)
        clear h1
        go_wp2
        refine bodyPost_ret (results_tmp4 rfl _ _ _) rfl ?_
        exact ⟨hf.out, below_then hb hb2⟩
    · have hfin : CutNamesP s.data.toList (.returned (.tuple #[.string ⟨#[]⟩, .string n, .string r, .bool true])) := .inr ⟨⟨#[]⟩, n, r, by unfold namesC; rw [h1]; dsimp only; rw [if_neg h46], rfl⟩
      have hfin' := Lib.hid hfin
      have cH := fun W => hasPre_is r 46 false W (decide_eq_false h46)
      clear hfin h1 h46
      go_wp2_with (go_at_call 105; refine (cH _).mono ?_; rintro e w' ⟨rfl, rfl⟩)
      refine bodyPost_ret (results_tmp4 rfl _ _ _) rfl ?_
      exact ⟨hfin'.out, hb⟩

/-! ### strings.Cut at one byte -/
def CutP (c : UInt8) (t : ByteArray) (e : Ending) : Prop :=
  (cut1 c t.data.toList = none ∧ e = .returned (.tuple #[.string t, .string ⟨#[]⟩, .bool false])) ∨
  ∃ a r : ByteArray, cut1 c t.data.toList = some (a.data.toList, r.data.toList) ∧ e = .returned (.tuple #[.string a, .string r, .bool true])
theorem byte_at (l : List UInt8) (c : UInt8) : (indexByte l c = -1 ∧ c ∉ l) ∨ ∃ k : Nat, indexByte l c = k ∧ k < l.length ∧ c ∉ l.take k ∧ l = l.take k ++ c :: l.drop (k + 1) := by
  have hge := indexByte_ge l c
  by_cases h : indexByte l c = -1
  · left
    refine ⟨h, fun hm => ?_⟩
    obtain ⟨k, hk⟩ := List.mem_iff_getElem?.1 hm
    exact indexByte_none h k hk
  · right
    obtain ⟨k, hk⟩ : ∃ k : Nat, indexByte l c = k := ⟨(indexByte l c).toNat, by omega⟩
    obtain ⟨h1, h2⟩ := indexByte_some hk
    obtain ⟨hlt, hv⟩ := List.getElem?_eq_some_iff.1 h1
    refine ⟨k, hk, hlt, fun hm => ?_, ?_⟩
    · obtain ⟨j, hj⟩ := List.mem_iff_getElem?.1 hm
      rw [List.getElem?_take] at hj
      split at hj
      · exact h2 j ‹_› hj
      · cases hj
    · conv => lhs; rw [← List.take_append_drop k l, List.drop_eq_getElem_cons hlt, hv]

set_option maxHeartbeats 2000000 in
set_option maxRecDepth 100000 in
theorem cutLite_any (c : UInt8) (t : ByteArray) (w : World) (hs : t.size ≤ 9223372036854775807) :
    Calls Tryz.prog 120 #[.string t, .string ⟨#[c]⟩] w fun e w' => CutP c t e ∧ Below w.heap.size w w' := by
  have cI := fun W => Tryz.stringslite_Index_one t c W
  rcases byte_at t.data.toList c with ⟨h1, h2⟩ | ⟨k, h1, h2, h3, h4⟩
  · rw [h1] at cI
    have hfin : CutP c t (.returned (.tuple #[.string t, .string ⟨#[]⟩, .bool false])) := .inl ⟨cut1_none h2, rfl⟩
    clear h1 h2
    have hfin' := Lib.hid hfin
    clear hfin
    go_enter Tryz.func120, Tryz.ntmps120
    go_wp2_with (go_at_call 136; refine (cI _).mono ?_; rintro e w' ⟨rfl, rfl⟩)
    go_ret3
    exact ⟨hfin'.out, Below.refl _ _⟩
  · rw [h1] at cI
    rw [← Lib.size_eq] at h2
    have e1 : (t.extract 0 k).data.toList = t.data.toList.take k := by rw [Lib.extract_data]; rfl
    have e2 : (t.extract (k + 1) t.size).data.toList = t.data.toList.drop (k + 1) := Lib.extract_to_end t (k + 1)
    have hfin : CutP c t (.returned (.tuple #[.string (t.extract 0 k), .string (t.extract (k + 1) t.size), .bool true])) :=
      .inr ⟨_, _, by rw [e1, e2]; conv => lhs; rw [h4]
                     exact cut1_some _ h3, rfl⟩
    clear h1 h3 h4 e1 e2
    have hfin' := Lib.hid hfin
    clear hfin
    have hw : IntKind.i64.wrap ((k : Int) + 1) = (k : Int) + 1 := IntWalk.i64_in _ (by omega)
    go_enter Tryz.func120, Tryz.ntmps120
    go_wp2_with (go_at_call 136; refine (cI _).mono ?_; rintro e w' ⟨rfl, rfl⟩)
    go_quiet (fail)
    go_wp2
    go_ret3
    exact ⟨hfin'.out, below_drew _ _⟩

set_option maxHeartbeats 2000000 in
set_option maxRecDepth 100000 in
theorem cut_any (c : UInt8) (t : ByteArray) (w : World) (hs : t.size ≤ 9223372036854775807) :
    Calls Tryz.prog 100 #[.string t, .string ⟨#[c]⟩] w fun e w' => CutP c t e ∧ Below w.heap.size w w' := by
  go_enter Tryz.func100, Tryz.ntmps100
  go_wp2_with fail
  go_at_call 120
  refine (cutLite_any c t w hs).mono ?_
  rintro e w1 ⟨hc, hb⟩
  rcases hc with ⟨h1, rfl⟩ | ⟨a, r, h1, rfl⟩
  · have hfin : CutP c t (.returned (.tuple #[.string t, .string ⟨#[]⟩, .bool false])) := .inl ⟨h1, rfl⟩
    have hfin' := Lib.hid hfin
    clear hfin h1
    go_wp2
    go_ret3
    exact ⟨hfin'.out, hb⟩
  · have hfin : CutP c t (.returned (.tuple #[.string a, .string r, .bool true])) := .inr ⟨a, r, h1, rfl⟩
    have hfin' := Lib.hid hfin
    clear hfin h1
    go_wp2
    go_ret3
    exact ⟨hfin'.out, hb⟩

/-! ### a value as it is written -/
def CutValueP (t : Row) (e : Ending) : Prop :=
  (rawC t = none ∧ ∃ a r : ByteArray, e = .returned (.tuple #[.string a, .string r, .bool false])) ∨
  ∃ a r : ByteArray, rawC t = some (a.data.toList, r.data.toList) ∧ e = .returned (.tuple #[.string a, .string r, .bool true])
theorem sep_in (b : UInt8) : sepB b = ([44, 59, 58, 34] : List UInt8).contains b := by
  rw [Bool.eq_iff_iff]
  unfold sepB
  simp [or_assoc]
theorem index_span (l : Row) : (Lib.indexAny l [44, 59, 58, 34] = -1 ∧ l.takeWhile (fun b => !sepB b) = l ∧ l.dropWhile (fun b => !sepB b) = []) ∨
    ∃ k : Nat, Lib.indexAny l [44, 59, 58, 34] = k ∧ k < l.length ∧ l.takeWhile (fun b => !sepB b) = l.take k ∧ l.dropWhile (fun b => !sepB b) = l.drop k := by
  induction l with
  | nil => exact .inl ⟨rfl, rfl, rfl⟩
  | cons x l ih =>
    rw [Lib.indexAny, ← sep_in]
    cases hx : sepB x
    · rcases ih with ⟨h1, h2, h3⟩ | ⟨k, h1, h2, h3, h4⟩
      · left
        rw [h1]
        refine ⟨rfl, ?_, ?_⟩
        · rw [List.takeWhile_cons, hx, h2]; rfl
        · rw [List.dropWhile_cons, hx, h3]; rfl
      · right
        refine ⟨k + 1, ?_, by simp; exact h2, ?_, ?_⟩
        · have : (Lib.indexAny l [44, 59, 58, 34] == -1) = false := by rw [h1]; exact beq_eq_false_iff_ne.2 (by omega)
          rw [this, h1]; rfl
        · rw [List.takeWhile_cons, hx, h3]; rfl
        · rw [List.dropWhile_cons, hx, h4]; rfl
    · right
      exact ⟨0, rfl, by simp, by rw [List.takeWhile_cons, hx]; rfl, by rw [List.dropWhile_cons, hx]; rfl⟩
theorem asc4 : An.Asc ⟨#[44, 59, 58, 34]⟩ := fun j b hb => by
  have : b ∈ ([44, 59, 58, 34] : List UInt8) := List.mem_iff_getElem?.2 ⟨j, hb⟩
  simp only [List.mem_cons, List.not_mem_nil, or_false] at this
  rcases this with rfl | rfl | rfl | rfl <;> decide

set_option maxHeartbeats 4000000 in
set_option maxRecDepth 100000 in
theorem cutValue_any (s : ByteArray) (w : World) (hs : s.size ≤ 9223372036854775807) :
    Calls Tryz.prog 142 #[.string s] w fun e w' => CutValueP s.data.toList e ∧ Below w.heap.size w w' := by
  by_cases h34 : s.data.toList.head? = some 34
  · have hfin0 : cut1 34 s.data.toList.tail = none → ∀ a r : ByteArray, CutValueP s.data.toList (.returned (.tuple #[.string a, .string r, .bool false])) := fun h a r => .inl ⟨by unfold rawC; rw [if_pos h34]; exact h, a, r, rfl⟩
    have hfin1 : ∀ a r : ByteArray, cut1 34 s.data.toList.tail = some (a.data.toList, r.data.toList) → CutValueP s.data.toList (.returned (.tuple #[.string a, .string r, .bool true])) := fun a r h => .inr ⟨a, r, by unfold rawC; rw [if_pos h34]; exact h, rfl⟩
    have hfin0' := Lib.hid hfin0
    have hfin1' := Lib.hid hfin1
    have cH := fun W => hasPre_is s 34 true W (decide_eq_true h34)
    have hr1 := size_pos s h34
    clear hfin0 hfin1 h34
    go_enter Tryz.func142, Tryz.ntmps142
    go_wp2_with (go_at_call 105; refine (cH _).mono ?_; rintro e w' ⟨rfl, rfl⟩)
    go_at_call 100
    refine (cut_any 34 (s.extract 1 s.size) _ (by rw [Lib.size_eq, cut_tail, List.length_tail, ← Lib.size_eq]; omega)).mono ?_
    rintro e w1 ⟨hc, hb⟩
    unfold CutP at hc
    rw [cut_tail] at hc
    rcases hc with ⟨h1, rfl⟩ | ⟨a, r, h1, rfl⟩
    · have hf := Lib.hid (hfin0'.out h1)
      clear h1
      go_wp2
      go_ret3
      exact ⟨hf.out _ _, hb⟩
    · have hf := Lib.hid (hfin1'.out a r h1)
      clear h1
      go_wp2
      go_ret3
      exact ⟨hf.out, hb⟩
  · have hraw : rawC s.data.toList = some (s.data.toList.takeWhile (fun b => !sepB b), s.data.toList.dropWhile (fun b => !sepB b)) := by unfold rawC; rw [if_neg h34]
    have cH := fun W => hasPre_is s 34 false W (decide_eq_false h34)
    have cI := fun W => An.indexAny_all s ⟨#[44, 59, 58, 34]⟩ asc4 (by decide) (by decide) W hs
    rw [show (⟨#[44, 59, 58, 34]⟩ : ByteArray).data.toList = [44, 59, 58, 34] from rfl] at cI
    rcases index_span s.data.toList with ⟨h1, h2, h3⟩ | ⟨k, h1, hk, h2, h3⟩
    · rw [h1] at cI
      have hfin : ∀ a r : ByteArray, a.data.toList = s.data.toList → r.data.toList = [] → CutValueP s.data.toList (.returned (.tuple #[.string a, .string r, .bool true])) := fun a r ha hr => .inr ⟨a, r, by rw [hraw, h2, h3, ha, hr], rfl⟩
      have hfin' := Lib.hid hfin
      clear hfin hraw h1 h2 h3 h34
      go_enter Tryz.func142, Tryz.ntmps142
      go_wp2_with (first
        | (go_at_call 105; refine (cH _).mono ?_; rintro e w' ⟨rfl, rfl⟩)
        | (go_at_call 123; refine (cI _).mono ?_; rintro e w1 ⟨rfl, hb⟩))
      go_quiet (fail)
      go_wp2
      go_ret3
      exact ⟨hfin'.out s ByteArray.empty rfl rfl, below_drewN _ hb⟩
    · rw [h1] at cI
      rw [← Lib.size_eq] at hk
      have hfin : CutValueP s.data.toList (.returned (.tuple #[.string (s.extract 0 k), .string (s.extract k s.size), .bool true])) := .inr ⟨_, _, by
        rw [hraw, h2, h3, Lib.extract_to_end, Lib.extract_data]; rfl, rfl⟩
      have hfin' := Lib.hid hfin
      clear hfin hraw h1 h2 h3 h34
      go_enter Tryz.func142, Tryz.ntmps142
      go_wp2_with (first
        | (go_at_call 105; refine (cH _).mono ?_; rintro e w' ⟨rfl, rfl⟩)
        | (go_at_call 123; refine (cI _).mono ?_; rintro e w1 ⟨rfl, hb⟩))
      go_quiet (fail)
      go_wp2
      go_ret3
      exact ⟨hfin'.out, below_drewN _ hb⟩

/-! ### what it means -/
def escL (l : Row) : Option UInt8 := if Lib.hasPrefix l [94, 110] = true then some 10 else if Lib.hasPrefix l [94, 94] = true then some 94 else if Lib.hasPrefix l [94, 39] = true then some 34 else none
theorem pre_two (l : Row) (a b : UInt8) : Lib.hasPrefix l [a, b] = true ↔ ∃ r, l = a :: b :: r := by
  unfold Lib.hasPrefix
  rw [List.isPrefixOf_iff_prefix]
  constructor
  · rintro ⟨r, h⟩; exact ⟨r, h.symm⟩
  · rintro ⟨r, h⟩; exact ⟨r, h.symm⟩
theorem mean_yes {l : Row} {c : UInt8} (h : escL l = some c) : mean l = c :: mean (l.drop 2) ∧ 2 ≤ l.length := by
  unfold escL at h
  split at h
  · obtain ⟨r, rfl⟩ := (pre_two _ _ _).1 ‹_›
    obtain rfl := Option.some.inj h
    exact ⟨by simp [mean], by simp⟩
  · split at h
    · obtain ⟨r, rfl⟩ := (pre_two _ _ _).1 ‹_›
      obtain rfl := Option.some.inj h
      exact ⟨by simp [mean], by simp⟩
    · split at h
      · obtain ⟨r, rfl⟩ := (pre_two _ _ _).1 ‹_›
        obtain rfl := Option.some.inj h
        exact ⟨by simp [mean], by simp⟩
      · cases h
theorem mean_no {x : UInt8} {l : Row} (h : escL (x :: l) = none) : mean (x :: l) = x :: mean l := by
  unfold escL at h
  split at h
  · cases h
  split at h
  · cases h
  split at h
  · cases h
  rename_i h1 h2 h3
  cases l with
  | nil => rfl
  | cons y t =>
    rw [mean, if_neg (fun h' => h1 ((pre_two _ _ _).2 ⟨t, by rw [h'.1, h'.2]⟩)), if_neg (fun h' => h2 ((pre_two _ _ _).2 ⟨t, by rw [h'.1, h'.2]⟩)), if_neg (fun h' => h3 ((pre_two _ _ _).2 ⟨t, by rw [h'.1, h'.2]⟩))]
def EscP (l : Row) (e : Ending) : Prop :=
  (escL l = none ∧ e = .returned (.tuple #[.int .u8 0, .bool false])) ∨ ∃ c : UInt8, escL l = some c ∧ e = .returned (.tuple #[.int .u8 (c.toNat : Int), .bool true])

set_option maxHeartbeats 2000000 in
set_option maxRecDepth 100000 in
theorem escaped_any (s : ByteArray) (w : World) :
    Calls Tryz.prog 152 #[.string s] w fun e w' => EscP s.data.toList e ∧ w = w' := by
  have c1 := fun W => Tryz.strings_HasPrefix s ⟨#[94, 110]⟩ W
  have c2 := fun W => Tryz.strings_HasPrefix s ⟨#[94, 94]⟩ W
  have c3 := fun W => Tryz.strings_HasPrefix s ⟨#[94, 39]⟩ W
  rw [show (⟨#[94, 110]⟩ : ByteArray).data.toList = [94, 110] from rfl] at c1
  rw [show (⟨#[94, 94]⟩ : ByteArray).data.toList = [94, 94] from rfl] at c2
  rw [show (⟨#[94, 39]⟩ : ByteArray).data.toList = [94, 39] from rfl] at c3
  have f0 : escL s.data.toList = none → EscP s.data.toList (.returned (.tuple #[.int .u8 0, .bool false])) := fun h => .inl ⟨h, rfl⟩
  have f1 : ∀ c : UInt8, escL s.data.toList = some c → EscP s.data.toList (.returned (.tuple #[.int .u8 (c.toNat : Int), .bool true])) := fun c h => .inr ⟨c, h, rfl⟩
  unfold escL at f0 f1
  generalize EscP s.data.toList = P at f0 f1 ⊢
  cases h1 : Lib.hasPrefix s.data.toList [94, 110]
  · cases h2 : Lib.hasPrefix s.data.toList [94, 94]
    · cases h3 : Lib.hasPrefix s.data.toList [94, 39]
      · rw [h1] at c1; rw [h2] at c2; rw [h3] at c3
        have hf := Lib.hid (f0 (by rw [h1, h2, h3]; rfl))
        clear f0 f1 h1 h2 h3
        go_enter Tryz.func152, Tryz.ntmps152
        go_wp2_with (first | (go_at_call 105; refine (c1 _).mono ?_; rintro e w' ⟨rfl, rfl⟩) | (go_at_call 105; refine (c2 _).mono ?_; rintro e w' ⟨rfl, rfl⟩) | (go_at_call 105; refine (c3 _).mono ?_; rintro e w' ⟨rfl, rfl⟩))
        go_ret2
        exact ⟨hf.out, rfl⟩
      · rw [h1] at c1; rw [h2] at c2; rw [h3] at c3
        have hf := Lib.hid (f1 34 (by rw [h1, h2, h3]; rfl))
        clear f0 f1 h1 h2 h3
        go_enter Tryz.func152, Tryz.ntmps152
        go_wp2_with (first | (go_at_call 105; refine (c1 _).mono ?_; rintro e w' ⟨rfl, rfl⟩) | (go_at_call 105; refine (c2 _).mono ?_; rintro e w' ⟨rfl, rfl⟩) | (go_at_call 105; refine (c3 _).mono ?_; rintro e w' ⟨rfl, rfl⟩))
        go_ret2
        exact ⟨hf.out, rfl⟩
    · rw [h1] at c1; rw [h2] at c2
      have hf := Lib.hid (f1 94 (by rw [h1, h2]; rfl))
      clear f0 f1 h1 h2 c3
      go_enter Tryz.func152, Tryz.ntmps152
      go_wp2_with (first | (go_at_call 105; refine (c1 _).mono ?_; rintro e w' ⟨rfl, rfl⟩) | (go_at_call 105; refine (c2 _).mono ?_; rintro e w' ⟨rfl, rfl⟩))
      go_ret2
      exact ⟨hf.out, rfl⟩
  · rw [h1] at c1
    have hf := Lib.hid (f1 10 (by rw [h1]; rfl))
    clear f0 f1 h1 c2 c3
    go_enter Tryz.func152, Tryz.ntmps152
    go_wp2_with (go_at_call 105; refine (c1 _).mono ?_; rintro e w' ⟨rfl, rfl⟩)
    go_ret2
    exact ⟨hf.out, rfl⟩

theorem drop_head (s : ByteArray) (k : Nat) (h : k < s.size) : s.data.toList.drop k = s[k]'h :: s.data.toList.drop (k + 1) := by
  have := Lib.data_getElem? s k h
  obtain ⟨hl, hv⟩ := List.getElem?_eq_some_iff.1 this
  rw [List.drop_eq_getElem_cons hl, hv]

set_option maxHeartbeats 4000000 in
set_option maxRecDepth 100000 in
theorem meant_any (s : ByteArray) (w : World) (hs : s.size ≤ 140737488355328) :
    Calls Tryz.prog 143 #[.string s] w fun e w' => e = .returned (.string ⟨(mean s.data.toList).toArray⟩) ∧ Below w.heap.size w w' := by
  have hML := mean_len s.data.toList
  rw [← Lib.size_eq] at hML
  obtain ⟨M, hM⟩ : ∃ M, mean s.data.toList = M := ⟨_, rfl⟩
  rw [hM] at hML ⊢
  have hM' := Lib.hid hM
  clear hM
  go_enter Tryz.func143, Tryz.ntmps143
  go_wp2
  go_loopw [4] (fun s4 wr => ∃ (k : Nat) (acc : Row), s4 = .int .i64 (k : Int) ∧ k ≤ s.size ∧ M = acc ++ mean (s.data.toList.drop k) ∧ Bd w.heap.size w.heap.size acc wr ∧ Below w.heap.size w wr) (fun s4 wr => s.size - (RowKit.intOf s4).toNat)
  case atStart => exact ⟨0, [], rfl, Nat.zero_le _, hM'.out.symm, fresh w, (Below.refl _ _).alloc (Nat.le_refl _) _⟩
  case round =>
    obtain ⟨k, acc, rfl, hk, hacc, hbd, hbw⟩ := hrel
    have hal : acc.length ≤ M.length := by have := congrArg List.length hacc; rw [List.length_append] at this; omega
    have hbr := hbd.lt
    by_cases hlt : k < s.size
    · have hds : (s.extract k s.size).data.toList = s.data.toList.drop k := Lib.extract_to_end s k
      have hdh := drop_head s k hlt
      have hE := escaped_any (s.extract k s.size) wr
      rw [hds] at hE
      have hdl : (s.data.toList.drop k).length = s.size - k := by rw [List.length_drop, ← Lib.size_eq]
      have hacc' := Lib.hid hacc
      have hdh' := Lib.hid hdh
      have hdl' := Lib.hid hdl
      clear hacc hds hdh hdl
      go_wp2_with fail
      go_at_call 152
      refine hE.mono ?_
      rintro e w' ⟨hc, rfl⟩
      rcases hc with ⟨h1, rfl⟩ | ⟨c, h1, rfl⟩
      · have hn : M = (acc ++ [s[k]'hlt]) ++ mean (s.data.toList.drop (k + 1)) := by
          rw [hdh'.out] at h1
          rw [hacc'.out, hdh'.out, mean_no h1]; simp
        have hl1 : acc.length + 1 ≤ 140737488355328 := by
          have := congrArg List.length hn
          rw [List.length_append, List.length_append, List.length_singleton] at this
          omega
        have cB := byte_any w.heap.size w.heap.size acc (s[k]'hlt) wr hbd hl1 (by omega)
        have hn' := Lib.hid hn
        clear h1 hn
        go_wp2_with (go_at_call 67; refine cB.mono ?_; rintro e w1 ⟨rfl, hbd1, hb1⟩)
        go_roundw
        case rel => exact ⟨k + 1, _, by go_num, by omega, hn'.out, hbd1, hbw.trans hb1⟩
        case measure => simp [RowKit.intOf]; omega
      · obtain ⟨hm, h2⟩ := mean_yes h1
        have hk2 : k + 2 ≤ s.size := by have := hdl'.out; omega
        have hn : M = (acc ++ [c]) ++ mean (s.data.toList.drop (k + 2)) := by
          rw [hacc'.out, hm, List.drop_drop]; simp
        have hl1 : acc.length + 1 ≤ 140737488355328 := by
          have := congrArg List.length hn
          rw [List.length_append, List.length_append, List.length_singleton] at this
          omega
        have cB := byte_any w.heap.size w.heap.size acc c wr hbd hl1 (by omega)
        have hn' := Lib.hid hn
        clear h1 hm hn h2
        go_wp2_with (go_at_call 67; refine cB.mono ?_; rintro e w1 ⟨rfl, hbd1, hb1⟩)
        go_roundw
        case rel => exact ⟨k + 2, _, by go_num, by omega, hn'.out, hbd1, hbw.trans hb1⟩
        case measure => simp [RowKit.intOf]; omega
    · have hfin : acc = M := by
        rw [hacc, List.drop_eq_nil_of_le (by rw [← Lib.size_eq]; omega)]
        simp [mean]
      have hfin' := Lib.hid hfin
      clear hfin hacc
      go_wp2_with (go_at_call 69; refine (text_any w.heap.size w.heap.size _ _ hbd (by omega)).mono ?_; rintro e w1 ⟨rfl, _, hb1⟩)
      go_ret
      exact ⟨by rw [hfin'.out]; rfl, hbw.trans hb1⟩

/-! ### plain -/
theorem asc2 : An.Asc ⟨#[13, 10]⟩ := fun j b hb => by
  have : b ∈ ([13, 10] : List UInt8) := List.mem_iff_getElem?.2 ⟨j, hb⟩
  simp only [List.mem_cons, List.not_mem_nil, or_false] at this
  rcases this with rfl | rfl <;> decide
theorem asc1 : An.Asc ⟨#[13]⟩ := fun j b hb => by
  have : b ∈ ([13] : List UInt8) := List.mem_iff_getElem?.2 ⟨j, hb⟩
  simp only [List.mem_cons, List.not_mem_nil, or_false] at this
  subst this; decide
theorem ends_is (l : Row) : Lib.containsAny l [13, 10] = ends l := by
  rw [An.contains_any, Bool.eq_iff_iff, ends_mem, List.any_eq_true]
  constructor
  · rintro ⟨x, hx, h⟩
    simp at h
    rcases h with rfl | rfl
    · exact .inl hx
    · exact .inr hx
  · rintro (h | h)
    · exact ⟨13, h, rfl⟩
    · exact ⟨10, h, rfl⟩
theorem has13 (l : Row) : Lib.containsAny l [13] = l.contains 13 := by
  rw [An.contains_any, Bool.eq_iff_iff, List.any_eq_true]
  constructor
  · rintro ⟨x, hx, h⟩
    simp at h
    subst h; simpa using hx
  · intro h
    exact ⟨13, by simpa using h, rfl⟩

set_option maxHeartbeats 2000000 in
set_option maxRecDepth 100000 in
theorem plain_with (s cs : ByteArray) (V : Bool) (w : World) (hT : Ch.Tabs w) (hs : s.size ≤ 9223372036854775807)
    (cC : ∀ W, Calls Tryz.prog 103 #[.string s, .string cs] W fun e w' => e = .returned (.bool V) ∧ Below W.heap.size W w') :
    Calls Tryz.prog 74 #[.string s, .string cs] w fun e w' => e = .returned (.bool (Ch.valid s.data.toList && !V)) ∧ Below w.heap.size w w' := by
  have cV := Ch.valid_any s w hs hT
  have hT' := Lib.hid hT
  clear hT
  cases hv : Ch.valid s.data.toList
  · rw [hv] at cV
    clear hv
    go_enter Tryz.func74, Tryz.ntmps74
    go_wp2_with (go_at_call 23; refine cV.mono ?_; rintro e w1 ⟨rfl, hb⟩)
    go_ret
    exact ⟨rfl, hb⟩
  · rw [hv] at cV
    clear hv
    cases V
    all_goals
      go_enter Tryz.func74, Tryz.ntmps74
      go_wp2_with (first
        | (go_at_call 23; refine cV.mono ?_; rintro e w1 ⟨rfl, hb⟩)
        | (go_at_call 103; refine (cC _).mono ?_; rintro e w2 ⟨rfl, hb2⟩))
      go_ret
      exact ⟨rfl, below_then hb hb2⟩
theorem plainT_any (s : ByteArray) (w : World) (hT : Ch.Tabs w) (hs : s.size ≤ 9223372036854775807) :
    Calls Tryz.prog 74 #[.string s, .string ⟨#[13, 10]⟩] w fun e w' => e = .returned (.bool (okT s.data.toList)) ∧ Below w.heap.size w w' := by
  refine plain_with s ⟨#[13, 10]⟩ (ends s.data.toList) w hT hs fun W => (An.containsAny_all s ⟨#[13, 10]⟩ asc2 (by decide) (by decide) W hs).mono fun e w' ⟨h1, h2⟩ => ⟨h1.trans ?_, h2⟩
  rw [← ends_is]
theorem plainV_any (s : ByteArray) (w : World) (hT : Ch.Tabs w) (hs : s.size ≤ 9223372036854775807) :
    Calls Tryz.prog 74 #[.string s, .string ⟨#[13]⟩] w fun e w' => e = .returned (.bool (okV s.data.toList)) ∧ Below w.heap.size w w' := by
  refine plain_with s ⟨#[13]⟩ (s.data.toList.contains 13) w hT hs fun W => (An.containsAny_one s ⟨#[13]⟩ asc1 (by decide) W).mono fun e w' ⟨h1, h2⟩ => ⟨h1.trans ?_, h2⟩
  rw [← has13]
end Go.Proofs.YthnnpnlapjlnoaaGreatDoor.Li
