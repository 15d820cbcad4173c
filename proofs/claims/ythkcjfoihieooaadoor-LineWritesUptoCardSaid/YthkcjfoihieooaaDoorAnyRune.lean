/-
  WALKS OF strings.IndexRune at whatever two bytes or more below 128 are looked for (at most 64).
-/
import Derived.Test.YthkcjfoihieooaaDoorShelf
import Derived.Test.YthkcjfoihieooaaDoorCharPlain
import Derived.Laws.RangeAny
import Derived.LoopTactic
import Derived.Lib.Hide
import Derived.Lib.OthersKept
import Derived.Lib.IndexLaws
import Derived.Deep.QuietTactic
import Derived.BigQuiet
import Derived.Laws.Runes
set_option linter.unusedVariables false
namespace Go.Proofs.YthkcjfoihieooaaDoor.An
open Go.Lib Go.RowKit

theorem drewN_below {a w : World} (n : Nat) (h : Below a.heap.size a w) : Below a.heap.size a (w.drewN n) := ⟨h.os, h.tape, h.output, h.size, h.block⟩
theorem quiet_again {P : Program} {f : FuncId} {args : Array Value} {w : World} {a n : Nat} {v : Value}
    (h : Calls P f args (w.drewN (a + n)) fun e w' => e = .returned v ∧ w' = w.drewN (a + n)) :
    Calls P f args (w.drewN (a + n)) fun e w'' => e = .returned v ∧ ∃ m, w'' = w.drewN (a + m) :=
  h.mono fun _ _ ⟨he, hm⟩ => ⟨he, n, hm⟩
theorem valid_of (r : Int) (h : Lib.validRune r = true) : Utf8.valid r = true := by
  unfold Lib.validRune at h
  unfold Utf8.valid
  have h := of_decide_eq_true h
  simp
  omega
/-- bytes below 128 -/
def Asc (cs : ByteArray) : Prop := ∀ (j : Nat) b, cs.data.toList[j]? = some b → b.toNat < 128
theorem Asc.at {cs : ByteArray} (h : Asc cs) (i : Nat) (hi : i < cs.size) : (cs[i]'hi).toNat < 128 := h i _ (Lib.data_getElem? cs i hi)
theorem Asc.cut {cs : ByteArray} (h : Asc cs) (k : Nat) : Asc (cs.extract k cs.size) := fun j b hb => by
  rw [Lib.extract_to_end, List.getElem?_drop] at hb
  exact h _ _ hb
theorem Asc.none {cs : ByteArray} (h : Asc cs) (c : Int) (h1 : 128 ≤ c) (h2 : c < 256) : Lib.indexByte cs.data.toList c.toNat.toUInt8 = -1 := by
  have hge := Lib.indexByte_ge cs.data.toList c.toNat.toUInt8
  by_cases hn : Lib.indexByte cs.data.toList c.toNat.toUInt8 = -1
  · exact hn
  · obtain ⟨k, hk⟩ : ∃ k : Nat, Lib.indexByte cs.data.toList c.toNat.toUInt8 = k := ⟨(Lib.indexByte cs.data.toList c.toNat.toUInt8).toNat, by omega⟩
    have := h k _ (Lib.indexByte_some hk).1
    have e : c.toNat.toUInt8.toNat = c.toNat := by simp [UInt8.toNat_ofNat']; omega
    rw [e] at this
    omega


set_option maxHeartbeats 2000000 in
set_option maxRecDepth 1000000 in
theorem indexRune_far2 (cs : ByteArray) (c : Nat) (rs : ByteArray) (w : World) (h1 : 128 ≤ c) (d2 : ((c : Int) == 65533) = false) (hrs : Utf8.encode (c : Int) = rs) (h2 : rs.size = 2) (hcs : cs.size ≤ 1)
    (cV : ∀ W, Calls Tryd.prog 74 #[.int .i32 (c : Int)] W fun e w' => e = .returned (.bool true) ∧ w' = W) :
    Calls Tryd.prog 67 #[.string cs, .int .i32 (c : Int)] w fun e w' => e = .returned (.int .i64 (-1)) ∧ Below w.heap.size w w' := by
  go_enter Tryd.func67, Tryd.ntmps67
  go_wp2_with (go_at_call 74; refine (cV _).mono ?_; rintro e w' ⟨rfl, rfl⟩)
  go_step3
  go_wp2
  refine wp_loop_rounds 1 ?_
  rw [rounds_succ]
  go_wp2
  rw [Exit.noGoto_ret]
  go_ret
  exact ⟨rfl, Below.refl _ _⟩

set_option maxHeartbeats 2000000 in
set_option maxRecDepth 1000000 in
theorem indexRune_near2 (cs : ByteArray) (ha : Asc cs) (c : Nat) (rs : ByteArray) (w : World) (h1 : 128 ≤ c) (d2 : ((c : Int) == 65533) = false) (hrs : Utf8.encode (c : Int) = rs) (h2 : rs.size = 2) (hl : 1 < rs.size) (hb : 128 ≤ (rs[1]'hl).toNat) (hcs : 1 < cs.size) (hbig : cs.size ≤ 64)
    (cV : ∀ W, Calls Tryd.prog 74 #[.int .i32 (c : Int)] W fun e w' => e = .returned (.bool true) ∧ w' = W) :
    Calls Tryd.prog 67 #[.string cs, .int .i32 (c : Int)] w fun e w' => e = .returned (.int .i64 (-1)) ∧ Below w.heap.size w w' := by
  have e10 := ha.at 1 hcs
  have dne : ((((cs[1]'hcs)).toNat : Int) != ((rs[1]'hl).toNat : Int)) = true := by rw [bne_iff_ne]; omega
  have hlt := (rs[1]'hl).toNat_lt
  have cB := fun W => Tryd.strings_IndexByte (cs.extract 2 cs.size) ((rs[1]'hl).toNat : Int) W
  rw [(ha.cut 2).none ((rs[1]'hl).toNat : Int) (by omega) (by omega)] at cB
  clear e10
  go_enter Tryd.func67, Tryd.ntmps67
  go_wp2_with (go_at_call 74; refine (cV _).mono ?_; rintro e w' ⟨rfl, rfl⟩)
  go_step3
  go_wp2
  refine wp_loop_rounds 1 ?_
  rw [rounds_succ]
  go_wp2
  go_step3
  go_wp2
  go_quiet (fail)
  go_wp2
  have w2 : IntKind.i64.wrap 2 = 2 := by decide
  go_quiet ((go_at_call 73; exact quiet_again (cB _)))
  go_wp2
  rw [Exit.noGoto_ret]
  go_simp
  go_ret
  exact ⟨rfl, drewN_below _ (Below.refl _ _)⟩


set_option maxHeartbeats 2000000 in
set_option maxRecDepth 1000000 in
theorem indexRune_far3 (cs : ByteArray) (c : Nat) (rs : ByteArray) (w : World) (h1 : 128 ≤ c) (d2 : ((c : Int) == 65533) = false) (hrs : Utf8.encode (c : Int) = rs) (h2 : rs.size = 3) (hcs : cs.size ≤ 2)
    (cV : ∀ W, Calls Tryd.prog 74 #[.int .i32 (c : Int)] W fun e w' => e = .returned (.bool true) ∧ w' = W) :
    Calls Tryd.prog 67 #[.string cs, .int .i32 (c : Int)] w fun e w' => e = .returned (.int .i64 (-1)) ∧ Below w.heap.size w w' := by
  go_enter Tryd.func67, Tryd.ntmps67
  go_wp2_with (go_at_call 74; refine (cV _).mono ?_; rintro e w' ⟨rfl, rfl⟩)
  go_step3
  go_wp2
  refine wp_loop_rounds 1 ?_
  rw [rounds_succ]
  go_wp2
  rw [Exit.noGoto_ret]
  go_ret
  exact ⟨rfl, Below.refl _ _⟩

set_option maxHeartbeats 2000000 in
set_option maxRecDepth 1000000 in
theorem indexRune_near3 (cs : ByteArray) (ha : Asc cs) (c : Nat) (rs : ByteArray) (w : World) (h1 : 128 ≤ c) (d2 : ((c : Int) == 65533) = false) (hrs : Utf8.encode (c : Int) = rs) (h2 : rs.size = 3) (hl : 2 < rs.size) (hb : 128 ≤ (rs[2]'hl).toNat) (hcs : 2 < cs.size) (hbig : cs.size ≤ 64)
    (cV : ∀ W, Calls Tryd.prog 74 #[.int .i32 (c : Int)] W fun e w' => e = .returned (.bool true) ∧ w' = W) :
    Calls Tryd.prog 67 #[.string cs, .int .i32 (c : Int)] w fun e w' => e = .returned (.int .i64 (-1)) ∧ Below w.heap.size w w' := by
  have e10 := ha.at 2 hcs
  have dne : ((((cs[2]'hcs)).toNat : Int) != ((rs[2]'hl).toNat : Int)) = true := by rw [bne_iff_ne]; omega
  have hlt := (rs[2]'hl).toNat_lt
  have cB := fun W => Tryd.strings_IndexByte (cs.extract 3 cs.size) ((rs[2]'hl).toNat : Int) W
  rw [(ha.cut 3).none ((rs[2]'hl).toNat : Int) (by omega) (by omega)] at cB
  clear e10
  go_enter Tryd.func67, Tryd.ntmps67
  go_wp2_with (go_at_call 74; refine (cV _).mono ?_; rintro e w' ⟨rfl, rfl⟩)
  go_step3
  go_wp2
  refine wp_loop_rounds 1 ?_
  rw [rounds_succ]
  go_wp2
  go_step3
  go_wp2
  go_quiet (fail)
  go_wp2
  have w2 : IntKind.i64.wrap 3 = 3 := by decide
  go_quiet ((go_at_call 73; exact quiet_again (cB _)))
  go_wp2
  rw [Exit.noGoto_ret]
  go_simp
  go_ret
  exact ⟨rfl, drewN_below _ (Below.refl _ _)⟩


set_option maxHeartbeats 2000000 in
set_option maxRecDepth 1000000 in
theorem indexRune_far4 (cs : ByteArray) (c : Nat) (rs : ByteArray) (w : World) (h1 : 128 ≤ c) (d2 : ((c : Int) == 65533) = false) (hrs : Utf8.encode (c : Int) = rs) (h2 : rs.size = 4) (hcs : cs.size ≤ 3)
    (cV : ∀ W, Calls Tryd.prog 74 #[.int .i32 (c : Int)] W fun e w' => e = .returned (.bool true) ∧ w' = W) :
    Calls Tryd.prog 67 #[.string cs, .int .i32 (c : Int)] w fun e w' => e = .returned (.int .i64 (-1)) ∧ Below w.heap.size w w' := by
  go_enter Tryd.func67, Tryd.ntmps67
  go_wp2_with (go_at_call 74; refine (cV _).mono ?_; rintro e w' ⟨rfl, rfl⟩)
  go_step3
  go_wp2
  refine wp_loop_rounds 1 ?_
  rw [rounds_succ]
  go_wp2
  rw [Exit.noGoto_ret]
  go_ret
  exact ⟨rfl, Below.refl _ _⟩

set_option maxHeartbeats 2000000 in
set_option maxRecDepth 1000000 in
theorem indexRune_near4 (cs : ByteArray) (ha : Asc cs) (c : Nat) (rs : ByteArray) (w : World) (h1 : 128 ≤ c) (d2 : ((c : Int) == 65533) = false) (hrs : Utf8.encode (c : Int) = rs) (h2 : rs.size = 4) (hl : 3 < rs.size) (hb : 128 ≤ (rs[3]'hl).toNat) (hcs : 3 < cs.size) (hbig : cs.size ≤ 64)
    (cV : ∀ W, Calls Tryd.prog 74 #[.int .i32 (c : Int)] W fun e w' => e = .returned (.bool true) ∧ w' = W) :
    Calls Tryd.prog 67 #[.string cs, .int .i32 (c : Int)] w fun e w' => e = .returned (.int .i64 (-1)) ∧ Below w.heap.size w w' := by
  have e10 := ha.at 3 hcs
  have dne : ((((cs[3]'hcs)).toNat : Int) != ((rs[3]'hl).toNat : Int)) = true := by rw [bne_iff_ne]; omega
  have hlt := (rs[3]'hl).toNat_lt
  have cB := fun W => Tryd.strings_IndexByte (cs.extract 4 cs.size) ((rs[3]'hl).toNat : Int) W
  rw [(ha.cut 4).none ((rs[3]'hl).toNat : Int) (by omega) (by omega)] at cB
  clear e10
  go_enter Tryd.func67, Tryd.ntmps67
  go_wp2_with (go_at_call 74; refine (cV _).mono ?_; rintro e w' ⟨rfl, rfl⟩)
  go_step3
  go_wp2
  refine wp_loop_rounds 1 ?_
  rw [rounds_succ]
  go_wp2
  go_step3
  go_wp2
  go_quiet (fail)
  go_wp2
  have w2 : IntKind.i64.wrap 4 = 4 := by decide
  go_quiet ((go_at_call 73; exact quiet_again (cB _)))
  go_wp2
  rw [Exit.noGoto_ret]
  go_simp
  go_ret
  exact ⟨rfl, drewN_below _ (Below.refl _ _)⟩


set_option maxHeartbeats 2000000 in
set_option maxRecDepth 1000000 in
theorem indexRune_big (cs : ByteArray) (ha : Asc cs) (hbig : cs.size ≤ 64) (c : Nat) (w : World) (h1 : 128 ≤ c) (h3 : c ≠ 65533) :
    Calls Tryd.prog 67 #[.string cs, .int .i32 (c : Int)] w fun e w' => e = .returned (.int .i64 (-1)) ∧ Below w.heap.size w w' := by
  have d2 : ((c : Int) == 65533) = false := beq_eq_false_iff_ne.2 (by omega)
  cases hv : Lib.validRune (c : Int)
  · have cV := fun W => Tryd.utf8_ValidRune (c : Int) W
    rw [hv] at cV
    clear hv
    go_enter Tryd.func67, Tryd.ntmps67
    go_wp2_with (go_at_call 74; refine (cV _).mono ?_; rintro e w' ⟨rfl, rfl⟩)
    go_ret
    exact ⟨rfl, Below.refl _ _⟩
  · have cV := fun W => Tryd.utf8_ValidRune (c : Int) W
    rw [hv] at cV
    obtain ⟨hz, hz4, hl⟩ := encode_facts (c : Int) (valid_of _ hv) (by omega)
    clear hv
    obtain ⟨rs, hrs⟩ : ∃ rs, Utf8.encode (c : Int) = rs := ⟨_, rfl⟩
    rw [hrs] at hz hz4
    have hl2 : ∀ h : rs.size - 1 < rs.size, 128 ≤ (rs[rs.size - 1]'h).toNat := by subst hrs; exact hl
    have hsz : rs.size = 2 ∨ rs.size = 3 ∨ rs.size = 4 := by omega
    rcases hsz with h2 | h2 | h2

    · have hb := hl2 (by omega)
      rcases Nat.lt_or_ge 1 cs.size with h | h
      · exact indexRune_near2 cs ha c rs w h1 d2 hrs h2 (by omega) (by simpa only [h2] using hb) h hbig cV
      · exact indexRune_far2 cs c rs w h1 d2 hrs h2 h cV

    · have hb := hl2 (by omega)
      rcases Nat.lt_or_ge 2 cs.size with h | h
      · exact indexRune_near3 cs ha c rs w h1 d2 hrs h2 (by omega) (by simpa only [h2] using hb) h hbig cV
      · exact indexRune_far3 cs c rs w h1 d2 hrs h2 h cV

    · have hb := hl2 (by omega)
      rcases Nat.lt_or_ge 3 cs.size with h | h
      · exact indexRune_near4 cs ha c rs w h1 d2 hrs h2 (by omega) (by simpa only [h2] using hb) h hbig cV
      · exact indexRune_far4 cs c rs w h1 d2 hrs h2 h cV


set_option maxHeartbeats 2000000 in
set_option maxRecDepth 1000000 in
/-- the rune that stands for a broken byte -/
theorem indexRune_err (cs : ByteArray) (ha : Asc cs) (hbig : cs.size ≤ 64) (w : World) : Calls Tryd.prog 67 #[.string cs, .int .i32 65533] w fun e w' => e = .returned (.int .i64 (-1)) ∧ Below w.heap.size w w' := by
  go_enter Tryd.func67, Tryd.ntmps67
  go_wp2
  go_loopg [5, 6] cs.size (fun g _ _ wx => ∃ i : Nat, i + g = cs.size ∧ wx = w.iter cs i)
  case atStart => exact ⟨0, by omega, rfl⟩
  case round =>
    obtain ⟨i, hig, rfl⟩ := hrel
    by_cases hlt : i < cs.size
    · have hai := ha.at i hlt
      have hnx := fun ty => run_next_ascii (P := Tryd.prog) w cs i ty hlt hai
      have d1 : (((cs[i]'hlt).toNat : Int) == 65533) = false := beq_eq_false_iff_ne.2 (by omega)
      obtain ⟨g, rfl⟩ : ∃ g, gk = g + 1 := ⟨gk - 1, by omega⟩
      clear hai
      go_wp2
      go_roundg g
      case measure => omega
      case rel => exact ⟨i + 1, by omega, rfl⟩
    · have hnx := fun ty => run_next_end (P := Tryd.prog) w cs i ty hlt
      go_wp2
      go_ret
      exact ⟨rfl, (Below.refl _ _).alloc (Nat.le_refl _) _⟩

/-- a rune at the front: a byte below 128, or bytes none of which is below -/
theorem dec_facts (l : List UInt8) (hne : l ≠ []) :
    1 ≤ (decodeL l).2 ∧ (decodeL l).2 ≤ l.length ∧ (((decodeL l).1 < 128 ∧ (decodeL l).2 = 1 ∧ (l.getD 0 0).toNat = (decodeL l).1) ∨ (128 ≤ (decodeL l).1 ∧ ∀ j, j < (decodeL l).2 → 128 ≤ (l.getD j 0).toNat)) := by
  have hp := Ch.pos_of_ne hne
  have hw := decodeL_width l
  have hr : Ch.rune l = if decodeL l = (65533, 1) then (0, 0) else decodeL l := by
    rw [Ch.rune_eq l hne, decodeL_N]
    rfl
  by_cases h0 : (l.getD 0 0).toNat < 128
  · have e := Ch.runeN_one l.length (l.getD 0 0).toNat (l.getD 1 0).toNat (l.getD 2 0).toNat (l.getD 3 0).toNat h0
    rw [← Ch.rune_eq l hne, hr] at e
    by_cases hd : decodeL l = (65533, 1)
    · rw [if_pos hd] at e
      have := congrArg Prod.snd e
      simp at this
    · rw [if_neg hd] at e
      rw [e]
      exact ⟨Nat.le_refl _, hp, .inl ⟨h0, rfl, rfl⟩⟩
  · by_cases hd : decodeL l = (65533, 1)
    · rw [hd]
      refine ⟨Nat.le_refl _, hp, .inr ⟨by decide, fun j hj => ?_⟩⟩
      obtain rfl : j = 0 := by simpa using hj
      omega
    · rw [if_neg hd] at hr
      have hk : (Ch.rune l).2 ≠ 0 := by rw [hr]; omega
      obtain ⟨t1, t2, t3, t4⟩ := Ch.rune_tells hne hk
      rw [hr] at t1 t2 t3 t4
      rcases t4 with ⟨t4, _⟩ | ⟨t4, t5⟩
      · omega
      · refine ⟨hw, t1, .inr ⟨t3 t5, fun j hj => ?_⟩⟩
        rcases Nat.eq_zero_or_pos j with rfl | hj0
        · omega
        · exact (t2 j hj0 hj).1


/-- no byte of some in the first k -/
theorem NoAny.more {l cs : List UInt8} {pos n : Nat} (h : Lib.NoAny l cs pos) (ha : ∀ (j : Nat) b, cs[j]? = some b → b.toNat < 128) (hb : ∀ j, j < n → 128 ≤ ((l.drop pos).getD j 0).toNat) : Lib.NoAny l cs (pos + n) := by
  intro j b hj hjb
  by_cases hlt : j < pos
  · exact h j b hlt hjb
  · have := hb (j - pos) (by omega)
    rw [List.getD_eq_getElem?_getD, List.getElem?_drop, show pos + (j - pos) = j by omega, hjb] at this
    rw [Bool.eq_false_iff]
    intro hm
    obtain ⟨k, hk⟩ := List.mem_iff_getElem?.1 (by simpa using hm)
    have := ha k b hk
    simp at *
    omega
theorem NoAny.one {l cs : List UInt8} {pos : Nat} {x : UInt8} (h : Lib.NoAny l cs pos) (hx : l[pos]? = some x) (hn : cs.contains x = false) : Lib.NoAny l cs (pos + 1) := by
  intro j b hj hjb
  by_cases hlt : j < pos
  · exact h j b hlt hjb
  · obtain rfl : j = pos := by omega
    rw [hx] at hjb
    obtain rfl := Option.some.inj hjb
    exact hn
theorem in_index (l : List UInt8) (c : UInt8) : l.contains c = decide (0 ≤ Lib.indexByte l c) := by
  have hge := Lib.indexByte_ge l c
  by_cases hn : Lib.indexByte l c = -1
  · rw [hn]
    have : c ∉ l := fun hm => by
      obtain ⟨k, hk⟩ := List.mem_iff_getElem?.1 hm
      exact Lib.indexByte_none hn k hk
    simpa using this
  · obtain ⟨k, hk⟩ : ∃ k : Nat, Lib.indexByte l c = k := ⟨(Lib.indexByte l c).toNat, by omega⟩
    have := List.mem_iff_getElem?.2 ⟨k, (Lib.indexByte_some hk).1⟩
    rw [hk, decide_eq_true (by omega)]
    simpa using this

/-- IndexRune at whatever rune: found or not -/
theorem indexRune_at (cs : ByteArray) (ha : Asc cs) (hbig : cs.size ≤ 64) (c : Nat) (w : World) : Calls Tryd.prog 67 #[.string cs, .int .i32 (c : Int)] w fun e w' => (∃ i : Int, e = .returned (.int .i64 i) ∧ (if c < 128 then cs.data.toList.contains (UInt8.ofNat c) else false) = decide (0 ≤ i)) ∧ Below w.heap.size w w' := by
  by_cases h1 : c < 128
  · refine (Tryd.strings_IndexRune_ascii cs (c : Int) w (by omega) (by omega)).mono ?_
    rintro e w' ⟨rfl, rfl⟩
    refine ⟨⟨_, rfl, ?_⟩, Below.refl _ _⟩
    rw [if_pos h1, in_index]
    rfl
  · rw [if_neg h1]
    have hno : ∀ e w', (e = Ending.returned (.int .i64 (-1)) ∧ Below w.heap.size w w') → (∃ i : Int, e = .returned (.int .i64 i) ∧ false = decide (0 ≤ i)) ∧ Below w.heap.size w w' := fun e w' ⟨h, hb⟩ => ⟨⟨-1, h, rfl⟩, hb⟩
    by_cases h3 : c = 65533
    · subst h3; exact (indexRune_err cs ha hbig w).mono hno
    · exact (indexRune_big cs ha hbig c w (by omega) h3).mono hno

end Go.Proofs.YthkcjfoihieooaaDoor.An
