/-
  WALKS OF strings.IndexRune AND strings.IndexAny, ContainsAny AT THE TWO BYTES 13 10, for every string of at most 2^47 bytes.
-/
import Derived.Test.YtdocajpnlejagaaDoorShelf
import Derived.Test.YtdocajpnlejagaaDoorCharPlain
import Derived.Laws.RangeAny
import Derived.LoopTactic
import Derived.Lib.Hide
import Derived.Lib.OthersKept
import Derived.Lib.IndexLaws
import Derived.Deep.QuietTactic
import Derived.BigQuiet
import Derived.Laws.Runes
set_option linter.unusedVariables false
namespace Go.Proofs.YtdocajpnlejagaaDoor.An
open Go.Lib Go.RowKit

theorem drewN_below {a w : World} (n : Nat) (h : Below a.heap.size a w) : Below a.heap.size a (w.drewN n) := ⟨h.os, h.tape, h.output, h.size, h.block⟩
theorem quiet_again {P : Program} {f : FuncId} {args : Array Value} {w : World} {a n : Nat} {v : Value}
    (h : Calls P f args (w.drewN (a + n)) fun e w' => e = .returned v ∧ w' = w.drewN (a + n)) :
    Calls P f args (w.drewN (a + n)) fun e w'' => e = .returned v ∧ ∃ m, w'' = w.drewN (a + m) :=
  h.mono fun _ _ ⟨he, hm⟩ => ⟨he, n, hm⟩
theorem valid_of (r : Int) (h : Lib.validRune r = true) : Utf8.valid r = true := by
  unfold Lib.validRune at h
  unfold Utf8.valid
  have h := of_decide_eq_true h
  simp
  omega

set_option maxHeartbeats 2000000 in
set_option maxRecDepth 1000000 in
/-- a valid rune beyond ASCII whose bytes are three or four -/
theorem indexRune_three (c : Nat) (rs : ByteArray) (w : World) (h1 : 128 ≤ c) (d2 : ((c : Int) == 65533) = false) (hrs : Utf8.encode (c : Int) = rs) (h3 : 3 ≤ rs.size) (h4 : rs.size ≤ 4)
    (cV : ∀ W, Calls Tryd.prog 40 #[.int .i32 (c : Int)] W fun e w' => e = .returned (.bool true) ∧ w' = W) :
    Calls Tryd.prog 30 #[.string ⟨#[13, 10]⟩, .int .i32 (c : Int)] w fun e w' => e = .returned (.int .i64 (-1)) ∧ Below w.heap.size w w' := by
  go_enter Tryd.func30, Tryd.ntmps30
  go_wp2_with (go_at_call 40; refine (cV _).mono ?_; rintro e w' ⟨rfl, rfl⟩)
  go_step3
  go_wp2
  refine wp_loop_rounds 1 ?_
  rw [rounds_succ]
  go_wp2
  rw [Exit.noGoto_ret]
  go_ret
  exact ⟨rfl, Below.refl _ _⟩

set_option maxHeartbeats 2000000 in
set_option maxRecDepth 1000000 in
/-- .. two -/
theorem indexRune_two (c : Nat) (rs : ByteArray) (w : World) (h1 : 128 ≤ c) (d2 : ((c : Int) == 65533) = false) (hrs : Utf8.encode (c : Int) = rs) (h2 : rs.size = 2) (hl : 1 < rs.size) (hb : 128 ≤ (rs[1]'hl).toNat)
    (cV : ∀ W, Calls Tryd.prog 40 #[.int .i32 (c : Int)] W fun e w' => e = .returned (.bool true) ∧ w' = W) :
    Calls Tryd.prog 30 #[.string ⟨#[13, 10]⟩, .int .i32 (c : Int)] w fun e w' => e = .returned (.int .i64 (-1)) ∧ Below w.heap.size w w' := by
  have e10 : ((⟨#[13, 10]⟩ : ByteArray)[1]'(by decide)).toNat = 10 := rfl
  have dne : ((((⟨#[13, 10]⟩ : ByteArray)[1]'(by decide)).toNat : Int) != ((rs[1]'hl).toNat : Int)) = true := by rw [bne_iff_ne, e10]; omega
  clear e10
  have cB := fun W => Tryd.strings_IndexByte ByteArray.empty ((rs[1]'hl).toNat : Int) W
  rw [show Lib.indexByte ByteArray.empty.data.toList ((rs[1]'hl).toNat : Int).toNat.toUInt8 = -1 from rfl] at cB
  go_enter Tryd.func30, Tryd.ntmps30
  go_wp2_with (go_at_call 40; refine (cV _).mono ?_; rintro e w' ⟨rfl, rfl⟩)
  go_step3
  go_wp2
  refine wp_loop_rounds 1 ?_
  rw [rounds_succ]
  go_wp2
  go_step3
  go_wp2
  go_quiet (fail)
  go_wp2
  have w2 : IntKind.i64.wrap 2 = 2 := by decide
  go_quiet ((go_at_call 39; exact quiet_again (cB _)))
  go_wp2
  rw [Exit.noGoto_ret]
  go_simp
  go_ret
  exact ⟨rfl, drewN_below _ (Below.refl _ _)⟩

set_option maxHeartbeats 2000000 in
set_option maxRecDepth 1000000 in
theorem indexRune_big (c : Nat) (w : World) (h1 : 128 ≤ c) (h3 : c ≠ 65533) :
    Calls Tryd.prog 30 #[.string ⟨#[13, 10]⟩, .int .i32 (c : Int)] w fun e w' => e = .returned (.int .i64 (-1)) ∧ Below w.heap.size w w' := by
  have d2 : ((c : Int) == 65533) = false := beq_eq_false_iff_ne.2 (by omega)
  cases hv : Lib.validRune (c : Int)
  · have cV := fun W => Tryd.utf8_ValidRune (c : Int) W
    rw [hv] at cV
    clear hv
    go_enter Tryd.func30, Tryd.ntmps30
    go_wp2_with (go_at_call 40; refine (cV _).mono ?_; rintro e w' ⟨rfl, rfl⟩)
    go_ret
    exact ⟨rfl, Below.refl _ _⟩
  · have cV := fun W => Tryd.utf8_ValidRune (c : Int) W
    rw [hv] at cV
    obtain ⟨hz, hz4, hl⟩ := encode_facts (c : Int) (valid_of _ hv) (by omega)
    clear hv
    obtain ⟨rs, hrs⟩ : ∃ rs, Utf8.encode (c : Int) = rs := ⟨_, rfl⟩
    rw [hrs] at hz hz4
    have hl2 : ∀ h : rs.size - 1 < rs.size, 128 ≤ (rs[rs.size - 1]'h).toNat := by subst hrs; exact hl
    rcases Nat.lt_or_ge rs.size 3 with h | h
    · have h2 : rs.size = 2 := by omega
      have hb := hl2 (by omega)
      exact indexRune_two c rs w h1 d2 hrs h2 (by omega) (by simpa only [h2] using hb) cV
    · exact indexRune_three c rs w h1 d2 hrs h hz4 cV

set_option maxHeartbeats 2000000 in
set_option maxRecDepth 1000000 in
/-- the rune that stands for a broken byte -/
theorem indexRune_err (w : World) : Calls Tryd.prog 30 #[.string ⟨#[13, 10]⟩, .int .i32 65533] w fun e w' => e = .returned (.int .i64 (-1)) ∧ Below w.heap.size w w' := by
  go_enter Tryd.func30, Tryd.ntmps30
  go_wp2
  go_loopg [5, 6] 2 (fun g _ _ wx => ∃ i : Nat, i + g = 2 ∧ wx = w.iter ⟨#[13, 10]⟩ i)
  case atStart => exact ⟨0, rfl, rfl⟩
  case round =>
    obtain ⟨i, hig, rfl⟩ := hrel
    have hcase : i = 0 ∨ i = 1 ∨ i = 2 := by omega
    rcases hcase with rfl | rfl | rfl
    · obtain rfl : gk = 1 + 1 := by omega
      have hnx := fun ty => run_next_ascii (P := Tryd.prog) w ⟨#[13, 10]⟩ 0 ty (by decide) (by decide)
      go_wp2
      go_roundg 1
      case measure => omega
      case rel => exact ⟨1, rfl, rfl⟩
    · obtain rfl : gk = 0 + 1 := by omega
      have hnx := fun ty => run_next_ascii (P := Tryd.prog) w ⟨#[13, 10]⟩ 1 ty (by decide) (by decide)
      go_wp2
      go_roundg 0
      case measure => omega
      case rel => exact ⟨2, rfl, rfl⟩
    · have hnx := run_next_end (P := Tryd.prog) w ⟨#[13, 10]⟩ 2
      go_wp2
      go_ret
      exact ⟨rfl, (Below.refl _ _).alloc (Nat.le_refl _) _⟩

/-- whether one of the two is in it -/
def ends (l : List UInt8) : Bool := l.contains 13 || l.contains 10
theorem ends_append (a b : List UInt8) : ends (a ++ b) = (ends a || ends b) := by
  unfold ends
  rw [Bool.eq_iff_iff]
  simp
  constructor
  · rintro ((h | h) | (h | h)) <;> simp [h]
  · rintro ((h | h) | (h | h)) <;> simp [h]
theorem ends_mem (l : List UInt8) : ends l = true ↔ 13 ∈ l ∨ 10 ∈ l := by unfold ends; simp
theorem ends_any (l : List UInt8) : ends l = decide (0 ≤ Lib.indexAny l [13, 10]) := by
  induction l with
  | nil => rfl
  | cons b l ih =>
    have hge := Lib.indexAny_ge [13, 10] l
    unfold Lib.indexAny
    have e : ends (b :: l) = (([13, 10] : List UInt8).contains b || ends l) := by
      rw [Bool.eq_iff_iff, ends_mem, Bool.or_eq_true, ends_mem]
      simp only [List.contains_eq_mem, List.mem_cons, List.not_mem_nil, or_false, decide_eq_true_eq]
      constructor
      · rintro ((h | h) | (h | h)) <;> simp [h]
      · rintro ((h | h) | (h | h)) <;> simp [h]
    rw [e, ih]
    cases hb : ([13, 10] : List UInt8).contains b
    · simp only [Bool.false_or, Bool.false_eq_true, if_false]
      by_cases h : Lib.indexAny l [13, 10] = -1
      · simp [h]
      · have h1 : (Lib.indexAny l [13, 10] == -1) = false := by simpa using h
        simp only [h1, Bool.false_eq_true, if_false]
        rw [decide_eq_true (show (0 : Int) ≤ Lib.indexAny l [13, 10] + 1 by omega), decide_eq_true (show (0 : Int) ≤ Lib.indexAny l [13, 10] by omega)]
    · simp
def EndsP (l : List UInt8) (e : Ending) : Prop := ∃ i : Int, e = .returned (.int .i64 i) ∧ ends l = decide (0 ≤ i)

theorem zero256 : ∀ w, (zeroValue 62).run Tryd.prog w = .ok (.agg (Array.replicate 256 (.bool false))) w :=
  (zero_of_info (show (Tryd.prog.info? 62).map (fun i => (i.zero, i.size)) = some (some (.agg (Array.replicate 256 (.bool false))), 256) by kernel_rfl)).1

/-- a rune at the front: a byte below 128, or bytes none of which is below -/
theorem dec_facts (l : List UInt8) (hne : l ≠ []) :
    1 ≤ (decodeL l).2 ∧ (decodeL l).2 ≤ l.length ∧ (((decodeL l).1 < 128 ∧ (decodeL l).2 = 1 ∧ (l.getD 0 0).toNat = (decodeL l).1) ∨ (128 ≤ (decodeL l).1 ∧ ∀ j, j < (decodeL l).2 → 128 ≤ (l.getD j 0).toNat)) := by
  have hp := Ch.pos_of_ne hne
  have hw := decodeL_width l
  have hr : Ch.rune l = if decodeL l = (65533, 1) then (0, 0) else decodeL l := by
    rw [Ch.rune_eq l hne, decodeL_N]
    rfl
  by_cases h0 : (l.getD 0 0).toNat < 128
  · have e := Ch.runeN_one l.length (l.getD 0 0).toNat (l.getD 1 0).toNat (l.getD 2 0).toNat (l.getD 3 0).toNat h0
    rw [← Ch.rune_eq l hne, hr] at e
    by_cases hd : decodeL l = (65533, 1)
    · rw [if_pos hd] at e
      have := congrArg Prod.snd e
      simp at this
    · rw [if_neg hd] at e
      rw [e]
      exact ⟨Nat.le_refl _, hp, .inl ⟨h0, rfl, rfl⟩⟩
  · by_cases hd : decodeL l = (65533, 1)
    · rw [hd]
      refine ⟨Nat.le_refl _, hp, .inr ⟨by decide, fun j hj => ?_⟩⟩
      obtain rfl : j = 0 := by simpa using hj
      omega
    · rw [if_neg hd] at hr
      have hk : (Ch.rune l).2 ≠ 0 := by rw [hr]; omega
      obtain ⟨t1, t2, t3, t4⟩ := Ch.rune_tells hne hk
      rw [hr] at t1 t2 t3 t4
      rcases t4 with ⟨t4, _⟩ | ⟨t4, t5⟩
      · omega
      · refine ⟨hw, t1, .inr ⟨t3 t5, fun j hj => ?_⟩⟩
        rcases Nat.eq_zero_or_pos j with rfl | hj0
        · omega
        · exact (t2 j hj0 hj).1

theorem take_ends (l : List UInt8) (pos n : Nat) (h : ends (l.take pos) = false) (hb : ∀ j, j < n → 128 ≤ ((l.drop pos).getD j 0).toNat) : ends (l.take (pos + n)) = false := by
  rw [List.take_add, ends_append, h, Bool.false_or]
  rw [Bool.eq_false_iff]
  intro hm
  have : ∃ c : UInt8, (c = 13 ∨ c = 10) ∧ c ∈ (l.drop pos).take n := by
    rcases (ends_mem _).1 hm with h | h
    · exact ⟨13, .inl rfl, h⟩
    · exact ⟨10, .inr rfl, h⟩
  obtain ⟨c, hc, hm⟩ := this
  obtain ⟨j, hj⟩ := List.mem_iff_getElem?.1 hm
  rw [List.getElem?_take] at hj
  split at hj
  · have := hb j ‹_›
    rw [List.getD_eq_getElem?_getD, hj] at this
    rcases hc with rfl | rfl <;> exact absurd this (by decide)
  · cases hj
theorem take_one (l : List UInt8) (pos : Nat) (x : UInt8) (h : ends (l.take pos) = false) (hx : l[pos]? = some x) (h1 : x ≠ 13) (h2 : x ≠ 10) : ends (l.take (pos + 1)) = false := by
  obtain ⟨hlt, hv⟩ := List.getElem?_eq_some_iff.1 hx
  rw [List.take_succ_eq_append_getElem hlt, ends_append, h, hv, Bool.false_or]
  unfold ends
  simp [Ne.symm h1, Ne.symm h2]
theorem ends_at (l : List UInt8) (pos : Nat) (x : UInt8) (hx : l[pos]? = some x) (h : x = 13 ∨ x = 10) : ends l = true := by
  rw [ends_mem]
  obtain ⟨hlt, hv⟩ := List.getElem?_eq_some_iff.1 hx
  rcases h with h | h
  · left; rw [← h, ← hv]; exact List.getElem_mem hlt
  · right; rw [← h, ← hv]; exact List.getElem_mem hlt

/-- IndexRune at whatever rune -/
theorem indexRune_at (c : Nat) (w : World) : Calls Tryd.prog 30 #[.string ⟨#[13, 10]⟩, .int .i32 (c : Int)] w fun e w' => e = .returned (.int .i64 (if c = 13 then 0 else if c = 10 then 1 else -1)) ∧ Below w.heap.size w w' := by
  by_cases h1 : c < 128
  · refine (Tryd.strings_IndexRune_ascii ⟨#[13, 10]⟩ (c : Int) w (by omega) (by omega)).mono ?_
    rintro e w' ⟨rfl, rfl⟩
    refine ⟨?_, Below.refl _ _⟩
    have : ∀ c : Fin 128, Lib.indexByte (⟨#[13, 10]⟩ : ByteArray).data.toList ((c.val : Int)).toNat.toUInt8 = (if c.val = 13 then 0 else if c.val = 10 then 1 else -1) := by decide +kernel
    rw [this ⟨c, h1⟩]
  · rw [if_neg (by omega), if_neg (by omega)]
    by_cases h3 : c = 65533
    · subst h3; exact indexRune_err w
    · exact indexRune_big c w (by omega) h3

set_option maxHeartbeats 2000000 in
set_option maxRecDepth 1000000 in
theorem indexAny_short (s : ByteArray) (w : World) (h8 : s.size ≤ 8) :
    Calls Tryd.prog 24 #[.string s, .string ⟨#[13, 10]⟩] w fun e w' => EndsP s.data.toList e ∧ Below w.heap.size w w' := by
  have cU : ∀ W, Calls Tryd.prog 31 #[.int .i64 (s.size : Int)] W fun e w' => e = .returned (.bool false) ∧ W = w' := fun W => by
    refine (Tryd.strings_shouldUseASCIISet (s.size : Int) W).mono ?_
    rintro e w' ⟨rfl, rfl⟩
    rw [show decide ((8 : Int) < (s.size : Int)) = false from decide_eq_false (by omega)]
    exact ⟨rfl, rfl⟩
  go_enter Tryd.func24, Tryd.ntmps24
  go_wp2_with (go_at_call 31; refine (cU _).mono ?_; rintro e w' ⟨rfl, rfl⟩)
  clear cU
  go_loopw [] (fun wr => ∃ pos : Nat, pos ≤ s.size ∧ wr.heap[w.heap.size]? = some (.stringIter s pos) ∧ Below w.heap.size w wr ∧ ends (s.data.toList.take pos) = false) (fun wr => s.size - wr.iterPos w.heap.size)
  case atStart => exact ⟨0, Nat.zero_le _, World.iter_heap w s 0, (Below.refl _ _).alloc (Nat.le_refl _) _, rfl⟩
  case round =>
    obtain ⟨pos, hpos, hit, hbw, hen⟩ := hrel
    have hsz : w.heap.size < wr.heap.size := (Array.getElem?_eq_some_iff.1 hit).1
    have hen' := Lib.hid hen
    clear hen
    by_cases hp : pos < s.size
    · have hne : s.data.toList.drop pos ≠ [] := fun h => by
        have := List.drop_eq_nil_iff.1 h
        rw [← Lib.size_eq] at this
        omega
      obtain ⟨f1, f2, f3⟩ := dec_facts _ hne
      rw [decodeL_drop] at f1 f2 f3
      rw [List.length_drop, ← Lib.size_eq] at f2
      have hnx : ∀ ty, (Instr.next (.pointer (some ⟨w.heap.size, 0, none⟩)) true ty).run Tryd.prog wr = _ := fun ty => Lib.run_next_any_at wr w.heap.size s pos ty hit hp
      obtain ⟨⟨r, n⟩, hd⟩ : ∃ p, Utf8.decode s pos = p := ⟨_, rfl⟩
      rw [hd] at f1 f2 f3
      simp only [hd] at hnx
      have hit2 := Lib.iterAt_heap wr w.heap.size s pos (pos + n) hit
      have hbw2 := Lib.below_iterAt hbw (k := w.heap.size) (Nat.le_refl _) s (pos + n)
      have hsz2 : w.heap.size < (wr.iterAt w.heap.size s (pos + n)).heap.size := by rw [Lib.iterAt_size]; exact hsz
      have hxg : s.data.toList[pos]? = some (s[pos]'hp) := Lib.data_getElem? s pos hp
      have hx0 : ((s.data.toList.drop pos).getD 0 0).toNat = (s[pos]'hp).toNat := by
        rw [List.getD_eq_getElem?_getD, List.getElem?_drop, Nat.add_zero, hxg]; rfl
      clear hd hne
      by_cases hc : r = 13 ∨ r = 10
      · have hend : ends s.data.toList = true := by
          rcases f3 with ⟨g1, g2, g3⟩ | ⟨g1, _⟩
          · rw [hx0] at g3
            refine ends_at _ pos _ hxg ?_
            rcases hc with h | h
            · left; exact UInt8.toNat_inj.1 (by rw [g3, h]; rfl)
            · right; exact UInt8.toNat_inj.1 (by rw [g3, h]; rfl)
          · omega
        have hfin : EndsP s.data.toList (.returned (.int .i64 (pos : Int))) := ⟨pos, rfl, by rw [hend, decide_eq_true (by omega)]⟩
        have hfin' := Lib.hid hfin
        have cR : ∀ W, Calls Tryd.prog 30 #[.string ⟨#[13, 10]⟩, .int .i32 (r : Int)] W fun e w' => (∃ i : Nat, e = .returned (.int .i64 (i : Int))) ∧ Below W.heap.size W w' := fun W => by
          refine (indexRune_at r W).mono ?_
          rintro e w' ⟨rfl, hb⟩
          refine ⟨?_, hb⟩
          rcases hc with h | h
          · exact ⟨0, by rw [if_pos h]; rfl⟩
          · exact ⟨1, by rw [if_neg (by omega), if_pos h]; rfl⟩
        clear hfin hend f3 hx0 hxg hc f1 f2 hit
        go_wp2_with (go_at_call 30; refine (cR _).mono ?_; rintro e w3 ⟨⟨i, rfl⟩, hb3⟩)
        go_ret
        exact ⟨hfin'.out, hbw2.trans (hb3.mono (by omega))⟩
      · have hnext : ends (s.data.toList.take (pos + n)) = false := by
          rcases f3 with ⟨g1, g2, g3⟩ | ⟨g1, g2⟩
          · rw [hx0] at g3
            have g2 : n = 1 := g2
            have g3 : (s[pos]'hp).toNat = r := g3
            rw [g2]
            exact take_one _ pos _ hen'.out hxg (fun h => hc (.inl (by rw [← g3, h]; rfl))) (fun h => hc (.inr (by rw [← g3, h]; rfl)))
          · exact take_ends _ pos n hen'.out g2
        have hnext' := Lib.hid hnext
        have cR : ∀ W, Calls Tryd.prog 30 #[.string ⟨#[13, 10]⟩, .int .i32 (r : Int)] W fun e w' => e = .returned (.int .i64 (-1)) ∧ Below W.heap.size W w' := fun W => by
          refine (indexRune_at r W).mono ?_
          rintro e w' ⟨rfl, hb⟩
          exact ⟨by rw [if_neg (by omega), if_neg (by omega)], hb⟩
        have hit4 := Lib.hid hit
        clear hnext f3 hx0 hxg hc hit
        go_wp2_with (go_at_call 30; refine (cR _).mono ?_; rintro e w3 ⟨rfl, hb3⟩)
        have hit3 : w3.heap[w.heap.size]? = some (.stringIter s (pos + n)) := (hb3.block _ hsz2).trans hit2
        go_roundw
        case rel => exact ⟨pos + n, by omega, hit3, hbw2.trans (hb3.mono (by omega)), hnext'.out⟩
        case measure =>
          simp only [World.iterPos, hit3, hit4.out]
          omega
    · have hfin : EndsP s.data.toList (.returned (.int .i64 (-1))) := ⟨-1, rfl, by
        have h := hen'.out
        rw [List.take_of_length_le (by rw [← Lib.size_eq]; omega)] at h
        rw [h]; rfl⟩
      have hfin' := Lib.hid hfin
      have hnx : ∀ ty, (Instr.next (.pointer (some ⟨w.heap.size, 0, none⟩)) true ty).run Tryd.prog wr = _ := fun ty => Lib.run_next_end_at wr w.heap.size s pos ty hit hp
      clear hfin
      go_wp2
      go_ret
      exact ⟨hfin'.out, hbw⟩

/-- the set of the two bytes in a new block -/
def setW (w : World) : World := (w.alloc (.cells (Lib.setCells [13, 10]) 62)).alloc (.cells (Lib.setCells [13, 10]) 62)
theorem setW_cell (w : World) (x : UInt8) : (setW w).cell? ⟨w.heap.size + 1, x.toNat, none⟩ = some (.bool (([13, 10] : List UInt8).contains x)) := by
  unfold setW
  rw [World.cell?_alloc_at _ _ _ _ (by simp), Lib.setCells_at]
theorem setW_below (w : World) : Below w.heap.size w (setW w) := ((Below.refl _ _).alloc (Nat.le_refl _) _).alloc (by simp) _
theorem in_set (x : UInt8) : ([13, 10] : List UInt8).contains x = decide (x = 13 ∨ x = 10) := by
  rw [Bool.eq_iff_iff]; simp

set_option maxHeartbeats 4000000 in
set_option maxRecDepth 1000000 in
/-- a string of more than eight bytes: the set is made, each byte is looked up in it -/
theorem indexAny_long (s : ByteArray) (w : World) (h8 : 8 < s.size) (hs : s.size ≤ 140737488355328) :
    Calls Tryd.prog 24 #[.string s, .string ⟨#[13, 10]⟩] w fun e w' => EndsP s.data.toList e ∧ Below w.heap.size w w' := by
  have hM := Tryd.strings_makeASCIISet zero256 ⟨#[13, 10]⟩ w (by decide) (fun j b hb => by
    match j, hb with
    | 0, hb => simp at hb; subst hb; decide
    | 1, hb => simp at hb; subst hb; decide)
  have cU : ∀ W, Calls Tryd.prog 31 #[.int .i64 (s.size : Int)] W fun e w' => e = .returned (.bool true) ∧ W = w' := fun W => by
    refine (Tryd.strings_shouldUseASCIISet (s.size : Int) W).mono ?_
    rintro e w' ⟨rfl, rfl⟩
    rw [show decide ((8 : Int) < (s.size : Int)) = true from decide_eq_true (by omega)]
    exact ⟨rfl, rfl⟩
  have hsc : (storeCells ⟨w.heap.size + 1, 0, none⟩ (Lib.setCells [13, 10]).toList 0).run Tryd.prog ((w.alloc (.cells (Lib.setCells [13, 10]) 62)).alloc (.cells (Array.replicate 256 (.bool false)) 62)) = .ok () (setW w) := by
    have := run_storeCells_new (P := Tryd.prog) (w.alloc (.cells (Lib.setCells [13, 10]) 62)) 62 (Array.replicate 256 (.bool false)) (Lib.setCells [13, 10]) (by rw [Lib.setCells_size]; kernel_rfl) (by rw [Lib.setCells_size, Array.size_replicate]) (Lib.setCells_one _)
    simpa [setW] using this
  have hz : ∀ w, (zeroValue 62).run Tryd.prog w = _ := zero256
  go_enter Tryd.func24, Tryd.ntmps24
  go_wp2_with (first
    | (go_at_call 31; refine (cU _).mono ?_; rintro e w' ⟨rfl, rfl⟩)
    | (go_at_call 32; refine hM.mono ?_; rintro e w' ⟨rfl, hw⟩; rw [hw]))
  clear hM hsc cU
  have hbw := setW_below w
  have hcell := Lib.hid (setW_cell w)
  generalize setW w = w2 at hbw hcell ⊢
  go_loop [8] (fun s8 => ∃ i : Nat, s8 = .int .i64 (i : Int) ∧ i ≤ s.size ∧ ends (s.data.toList.take i) = false) (fun s8 => s.size - (RowKit.intOf s8).toNat)
  case atStart => exact ⟨0, rfl, Nat.zero_le _, rfl⟩
  case round =>
    obtain ⟨i, rfl, hi, hen⟩ := hrel
    have hen' := Lib.hid hen
    clear hen
    by_cases hlt : i < s.size
    · have hxg : s.data.toList[i]? = some (s[i]'hlt) := Lib.data_getElem? s i hlt
      have cC : ∀ v, ([13, 10] : List UInt8).contains (s[i]'hlt) = v → Calls Tryd.prog 33 #[.pointer (some ⟨w.heap.size + 1, 0, none⟩), .int .u8 ((s[i]'hlt).toNat : Int)] w2 fun e w' => e = .returned (.bool v) ∧ w2 = w' := fun v hv => by
        have hc := hcell.out (s[i]'hlt)
        rw [hv] at hc
        refine (Tryd.asciiSet_contains (w.heap.size + 1) (s[i]'hlt) v w2 hc).mono ?_
        rintro e w' ⟨rfl, rfl⟩
        exact ⟨rfl, rfl⟩
      by_cases hx : s[i]'hlt = 13 ∨ s[i]'hlt = 10
      · have hfin : EndsP s.data.toList (.returned (.int .i64 (i : Int))) := ⟨i, rfl, by rw [ends_at _ i _ hxg hx, decide_eq_true (by omega)]⟩
        have hfin' := Lib.hid hfin
        have cC1 := cC true (by rw [in_set]; exact decide_eq_true hx)
        clear hfin hx hxg cC
        go_wp2_with (go_at_call 33; refine cC1.mono ?_; rintro e w' ⟨rfl, rfl⟩)
        go_ret
        exact ⟨hfin'.out, hbw⟩
      · have hn := Lib.hid (take_one _ i _ hen'.out hxg (fun h => hx (.inl h)) (fun h => hx (.inr h)))
        have cC1 := cC false (by rw [in_set]; exact decide_eq_false hx)
        clear hx hxg cC
        go_wp2_with (go_at_call 33; refine cC1.mono ?_; rintro e w' ⟨rfl, rfl⟩)
        go_round
        case rel => exact ⟨i + 1, by go_num, by omega, hn.out⟩
        case measure => simp [RowKit.intOf]; omega
    · have hfin : EndsP s.data.toList (.returned (.int .i64 (-1))) := ⟨-1, rfl, by
        have h := hen'.out
        rw [List.take_of_length_le (by rw [← Lib.size_eq]; omega)] at h
        rw [h]; rfl⟩
      have hfin' := Lib.hid hfin
      clear hfin
      go_wp2
      go_ret
      exact ⟨hfin'.out, hbw⟩

theorem indexAny_all (s : ByteArray) (w : World) (hs : s.size ≤ 140737488355328) :
    Calls Tryd.prog 24 #[.string s, .string ⟨#[13, 10]⟩] w fun e w' => EndsP s.data.toList e ∧ Below w.heap.size w w' := by
  by_cases h8 : s.size ≤ 8
  · exact indexAny_short s w h8
  · exact indexAny_long s w (by omega) hs

set_option maxHeartbeats 2000000 in
set_option maxRecDepth 100000 in
theorem containsAny_all (s : ByteArray) (w : World) (hs : s.size ≤ 140737488355328) :
    Calls Tryd.prog 19 #[.string s, .string ⟨#[13, 10]⟩] w fun e w' => e = .returned (.bool (ends s.data.toList)) ∧ Below w.heap.size w w' := by
  obtain ⟨E, hE⟩ : ∃ E, ends s.data.toList = E := ⟨_, rfl⟩
  have cI := fun W => indexAny_all s W hs
  unfold EndsP at cI
  rw [hE] at cI ⊢
  clear hE
  go_enter Tryd.func19, Tryd.ntmps19
  go_wp2_with (go_at_call 24; refine (cI _).mono ?_; rintro e w3 ⟨⟨i, rfl, hi⟩, hb3⟩; subst hi)
  go_ret
  exact ⟨rfl, hb3⟩
end Go.Proofs.YtdocajpnlejagaaDoor.An
