import Derived.Test.YtmmpojhjpghdlaaGreatDoorMg4
import Derived.Test.YtmmpojhjpghdlaaGreatDoorMg3
import Derived.IntWalk
import Derived.BigQuiet
import Derived.Deep.QuietTactic
import Derived.LoopTactic
import Derived.Laws.StructEq
import Derived.ChangeKeysEq

/-
  THE WALKS OF THE REFERENCE's Rune AND Valid.
-/
set_option linter.unusedVariables false
namespace Go.Proofs.YtmmpojhjpghdlaaGreatDoor.Ch
open Go.Lib Go.RowKit

def runeE (p : Nat × Nat) : Ending := .returned (.tuple #[.int .i64 (p.1 : Int), .int .i64 (p.2 : Int)])
/-- byte j, nought behind the end -/
def at' (s : ByteArray) (j : Nat) : Nat := (s.data.toList.getD j 0).toNat
theorem at_get (s : ByteArray) (j : Nat) (h : j < s.size) : ((s[j]'h).toNat : Int) = (at' s j : Int) := by
  unfold at'
  have hl : j < s.data.toList.length := by rw [← Lib.size_eq]; exact h
  rw [List.getD_eq_getElem?_getD, List.getElem?_eq_getElem hl]
  rfl
theorem at_lt (s : ByteArray) (j : Nat) : at' s j < 256 := (s.data.toList.getD j 0).toNat_lt

/-- The rounds for a character of two bytes: where the place is, what has been gathered. -/
def Rel2 (b0 b1 : Nat) (b i : Value) : Prop := (i = .int .i64 1 ∧ b = .int .i64 ((b0 : Int) - 192)) ∨ (i = .int .i64 2 ∧ b = .int .i64 (64 * ((b0 : Int) - 192) + b1 - 128) ∧ cont b1)

set_option maxHeartbeats 2000000 in
set_option maxRecDepth 100000 in
theorem rune_two (s : ByteArray) (w : World) (hs : s.size ≤ 9223372036854775807) (h0 : 0 < s.size) (h1 : 192 ≤ at' s 0) (h2 : at' s 0 < 224) :
    Calls Tryz.prog 75 #[.string s] w fun e w' => e = runeE (runeN s.size (at' s 0) (at' s 1) (at' s 2) (at' s 3)) ∧ w = w' := by
  have g0 := at_get s 0 h0
  have gl1 := at_lt s 1
  obtain ⟨b0, hb0⟩ : ∃ b, at' s 0 = b := ⟨_, rfl⟩
  obtain ⟨b1, hb1⟩ : ∃ b, at' s 1 = b := ⟨_, rfl⟩
  rw [hb0] at g0 h1 h2 ⊢
  rw [hb1] at gl1 ⊢
  obtain ⟨R, hR⟩ : ∃ R, runeN s.size b0 b1 (at' s 2) (at' s 3) = R := ⟨_, rfl⟩
  have hcase := runeN_two s.size b0 b1 (at' s 2) (at' s 3) h1 h2
  rw [hR] at hcase ⊢
  have hb1' := Lib.hid hb1
  have hcase' := Lib.hid hcase
  clear hR hb0 hb1 hcase
  by_cases hz : s.size < 2
  · have hR0 : R = (0, 0) := by
      rcases hcase'.out with h | h
      · omega
      · exact h.2
    have hR0' := Lib.hid hR0
    clear hR0
    go_enter Tryz.func75, Tryz.ntmps75
    go_wp2
    go_ret2
    exact ⟨by rw [hR0'.out]; rfl, rfl⟩
  · have g1 := at_get s 1 (by omega)
    rw [hb1'.out] at g1
    go_enter Tryz.func75, Tryz.ntmps75
    go_wp2
    go_loop [4, 7] (fun b i => Rel2 b0 b1 b i) (fun _ i => 2 - (RowKit.intOf i).toNat)
    case atStart => exact .inl ⟨rfl, rfl⟩
    case round =>
      rcases hrel with ⟨rfl, rfl⟩ | ⟨rfl, rfl, hc⟩
      · by_cases hc : cont b1
        · obtain ⟨c1, c2⟩ := hc
          go_wp2
          go_round
          case rel => exact ⟨_, _, _, _, .inr ⟨rfl, rfl, c1, c2⟩, rfl, rfl, rfl, rfl⟩
          case measure => decide
        · have hR0 : R = (0, 0) := by
            rcases hcase'.out with h | h
            · exact absurd h.2.1 hc
            · exact h.2
          have hR0' := Lib.hid hR0
          have hc' : b1 < 128 ∨ 191 < b1 := by unfold cont at hc; omega
          clear hR0 hc
          rcases hc' with hc' | hc'
          all_goals
            go_wp2
            go_ret2
            exact ⟨by rw [hR0'.out]; rfl, rfl⟩
      · have hv : (64 * ((b0 : Int) - 192) + b1 - 128) = (v2 b0 b1 : Int) := by unfold v2; have := hc.1; omega
        rw [hv]
        obtain ⟨v, hv2⟩ : ∃ v, v2 b0 b1 = v := ⟨_, rfl⟩
        have hcase2 := hcase'.out
        rw [hv2] at hcase2 ⊢
        clear hv hv2 hcase'
        rcases hcase2 with ⟨_, _, h3, h4, h5⟩ | ⟨h3, h5⟩
        · have h5' := Lib.hid h5
          clear h5
          go_wp2
          go_ret2
          exact ⟨by rw [h5'.out]; rfl, rfl⟩
        · have h4 : v < 128 := by
            rcases Nat.lt_or_ge v 128 with h | h
            · exact h
            · exact absurd ⟨by omega, hc, h⟩ h3
          have h5' := Lib.hid h5
          clear h5 h3
          go_wp2
          go_ret2
          exact ⟨by rw [h5'.out]; rfl, rfl⟩

/-- Three bytes. -/
def Rel3 (b0 b1 b2 : Nat) (b i : Value) : Prop := (i = .int .i64 1 ∧ b = .int .i64 ((b0 : Int) - 224)) ∨ (i = .int .i64 2 ∧ b = .int .i64 (64 * ((b0 : Int) - 224) + b1 - 128) ∧ cont b1) ∨
  (i = .int .i64 3 ∧ b = .int .i64 (64 * (64 * ((b0 : Int) - 224) + b1 - 128) + b2 - 128) ∧ cont b1 ∧ cont b2)

set_option maxHeartbeats 4000000 in
set_option maxRecDepth 100000 in
theorem rune_three (s : ByteArray) (w : World) (hs : s.size ≤ 9223372036854775807) (h0 : 0 < s.size) (h1 : 224 ≤ at' s 0) (h2 : at' s 0 < 240) :
    Calls Tryz.prog 75 #[.string s] w fun e w' => e = runeE (runeN s.size (at' s 0) (at' s 1) (at' s 2) (at' s 3)) ∧ w = w' := by
  have g0 := at_get s 0 h0
  have gl1 := at_lt s 1
  have gl2 := at_lt s 2
  obtain ⟨b0, hb0⟩ : ∃ b, at' s 0 = b := ⟨_, rfl⟩
  obtain ⟨b1, hb1⟩ : ∃ b, at' s 1 = b := ⟨_, rfl⟩
  obtain ⟨b2, hb2⟩ : ∃ b, at' s 2 = b := ⟨_, rfl⟩
  rw [hb0] at g0 h1 h2 ⊢
  rw [hb1] at gl1 ⊢
  rw [hb2] at gl2 ⊢
  obtain ⟨R, hR⟩ : ∃ R, runeN s.size b0 b1 b2 (at' s 3) = R := ⟨_, rfl⟩
  have hcase := runeN_three s.size b0 b1 b2 (at' s 3) h1 h2
  rw [hR] at hcase ⊢
  have hb1' := Lib.hid hb1
  have hb2' := Lib.hid hb2
  have hcase' := Lib.hid hcase
  clear hR hb0 hb1 hb2 hcase
  by_cases hz : s.size < 3
  · have hR0 : R = (0, 0) := by
      rcases hcase'.out with h | h
      · omega
      · exact h.2
    have hR0' := Lib.hid hR0
    clear hR0
    go_enter Tryz.func75, Tryz.ntmps75
    go_wp2
    go_ret2
    exact ⟨by rw [hR0'.out]; rfl, rfl⟩
  · have g1 := at_get s 1 (by omega)
    have g2 := at_get s 2 (by omega)
    rw [hb1'.out] at g1
    rw [hb2'.out] at g2
    go_enter Tryz.func75, Tryz.ntmps75
    go_wp2
    go_loop [4, 7] (fun b i => Rel3 b0 b1 b2 b i) (fun _ i => 3 - (RowKit.intOf i).toNat)
    case atStart => exact .inl ⟨rfl, rfl⟩
    case round =>
      rcases hrel with ⟨rfl, rfl⟩ | ⟨rfl, rfl, hc⟩ | ⟨rfl, rfl, hc1, hc2⟩
      · by_cases hc : cont b1
        · obtain ⟨c1, c2⟩ := hc
          go_wp2
          go_round
          case rel => exact ⟨_, _, _, _, .inr (.inl ⟨rfl, rfl, c1, c2⟩), rfl, rfl, rfl, rfl⟩
          case measure => decide
        · have hR0 : R = (0, 0) := by
            rcases hcase'.out with h | h
            · exact absurd h.2.1 hc
            · exact h.2
          have hR0' := Lib.hid hR0
          have hc' : b1 < 128 ∨ 191 < b1 := by unfold cont at hc; omega
          clear hR0 hc
          rcases hc' with hc' | hc'
          all_goals
            go_wp2
            go_ret2
            exact ⟨by rw [hR0'.out]; rfl, rfl⟩
      · obtain ⟨c1, c2⟩ := hc
        by_cases hd : cont b2
        · obtain ⟨d1, d2⟩ := hd
          go_wp2
          go_round
          case rel => exact ⟨_, _, _, _, .inr (.inr ⟨rfl, rfl, ⟨c1, c2⟩, d1, d2⟩), rfl, rfl, rfl, rfl⟩
          case measure => decide
        · have hR0 : R = (0, 0) := by
            rcases hcase'.out with h | h
            · exact absurd h.2.2.1 hd
            · exact h.2
          have hR0' := Lib.hid hR0
          have hc' : b2 < 128 ∨ 191 < b2 := by unfold cont at hd; omega
          clear hR0 hd
          rcases hc' with hc' | hc'
          all_goals
            go_wp2
            go_ret2
            exact ⟨by rw [hR0'.out]; rfl, rfl⟩
      · have hv : (64 * (64 * ((b0 : Int) - 224) + b1 - 128) + b2 - 128) = (v3 b0 b1 b2 : Int) := by unfold v3; have := hc1.1; have := hc2.1; omega
        have hvb : v3 b0 b1 b2 ≤ 65535 := by unfold v3; have := hc1.2; have := hc2.2; omega
        rw [hv]
        obtain ⟨v, hv2⟩ : ∃ v, v3 b0 b1 b2 = v := ⟨_, rfl⟩
        have hcase2 := hcase'.out
        rw [hv2] at hcase2 hvb ⊢
        clear hv hv2 hcase'
        rcases hcase2 with ⟨_, _, _, h3, h4, h6, h5⟩ | ⟨h3, h5⟩
        · have h5' := Lib.hid h5
          have h7 : v < 55296 ∨ 57343 < v := by omega
          clear h5 h6
          rcases h7 with h7 | h7
          all_goals
            go_wp2
            go_ret2
            exact ⟨by rw [h5'.out]; rfl, rfl⟩
        · have h4 : v < 2048 ∨ (55296 ≤ v ∧ v ≤ 57343) := by
            rcases Nat.lt_or_ge v 2048 with h | h
            · exact .inl h
            · right
              by_cases h6 : 55296 ≤ v ∧ v ≤ 57343
              · exact h6
              · exact absurd ⟨by omega, hc1, hc2, h, h6⟩ h3
          have h5' := Lib.hid h5
          clear h5 h3
          rcases h4 with h4 | ⟨h4, h6⟩
          all_goals
            go_wp2
            go_ret2
            exact ⟨by rw [h5'.out]; rfl, rfl⟩

/-- Four bytes. -/
def Rel4 (b0 b1 b2 b3 : Nat) (b i : Value) : Prop := (i = .int .i64 1 ∧ b = .int .i64 ((b0 : Int) - 240)) ∨ (i = .int .i64 2 ∧ b = .int .i64 (64 * ((b0 : Int) - 240) + b1 - 128) ∧ cont b1) ∨
  (i = .int .i64 3 ∧ b = .int .i64 (64 * (64 * ((b0 : Int) - 240) + b1 - 128) + b2 - 128) ∧ cont b1 ∧ cont b2) ∨
  (i = .int .i64 4 ∧ b = .int .i64 (64 * (64 * (64 * ((b0 : Int) - 240) + b1 - 128) + b2 - 128) + b3 - 128) ∧ cont b1 ∧ cont b2 ∧ cont b3)

set_option maxHeartbeats 4000000 in
set_option maxRecDepth 100000 in
theorem rune_four (s : ByteArray) (w : World) (hs : s.size ≤ 9223372036854775807) (h0 : 0 < s.size) (h1 : 240 ≤ at' s 0) (h2 : at' s 0 < 248) :
    Calls Tryz.prog 75 #[.string s] w fun e w' => e = runeE (runeN s.size (at' s 0) (at' s 1) (at' s 2) (at' s 3)) ∧ w = w' := by
  have g0 := at_get s 0 h0
  have gl1 := at_lt s 1
  have gl2 := at_lt s 2
  have gl3 := at_lt s 3
  obtain ⟨b0, hb0⟩ : ∃ b, at' s 0 = b := ⟨_, rfl⟩
  obtain ⟨b1, hb1⟩ : ∃ b, at' s 1 = b := ⟨_, rfl⟩
  obtain ⟨b2, hb2⟩ : ∃ b, at' s 2 = b := ⟨_, rfl⟩
  obtain ⟨b3, hb3⟩ : ∃ b, at' s 3 = b := ⟨_, rfl⟩
  rw [hb0] at g0 h1 h2 ⊢
  rw [hb1] at gl1 ⊢
  rw [hb2] at gl2 ⊢
  rw [hb3] at gl3 ⊢
  obtain ⟨R, hR⟩ : ∃ R, runeN s.size b0 b1 b2 b3 = R := ⟨_, rfl⟩
  have hcase := runeN_four s.size b0 b1 b2 b3 h1 h2
  rw [hR] at hcase ⊢
  have hb1' := Lib.hid hb1
  have hb2' := Lib.hid hb2
  have hb3' := Lib.hid hb3
  have hcase' := Lib.hid hcase
  clear hR hb0 hb1 hb2 hb3 hcase
  by_cases hz : s.size < 4
  · have hR0 : R = (0, 0) := by
      rcases hcase'.out with h | h
      · omega
      · exact h.2
    have hR0' := Lib.hid hR0
    clear hR0
    go_enter Tryz.func75, Tryz.ntmps75
    go_wp2
    go_ret2
    exact ⟨by rw [hR0'.out]; rfl, rfl⟩
  · have g1 := at_get s 1 (by omega)
    have g2 := at_get s 2 (by omega)
    have g3 := at_get s 3 (by omega)
    rw [hb1'.out] at g1
    rw [hb2'.out] at g2
    rw [hb3'.out] at g3
    go_enter Tryz.func75, Tryz.ntmps75
    go_wp2
    go_loop [4, 7] (fun b i => Rel4 b0 b1 b2 b3 b i) (fun _ i => 4 - (RowKit.intOf i).toNat)
    case atStart => exact .inl ⟨rfl, rfl⟩
    case round =>
      rcases hrel with ⟨rfl, rfl⟩ | ⟨rfl, rfl, hc⟩ | ⟨rfl, rfl, hc1, hc2⟩ | ⟨rfl, rfl, hc1, hc2, hc3⟩
      · by_cases hc : cont b1
        · obtain ⟨c1, c2⟩ := hc
          go_wp2
          go_round
          case rel => exact ⟨_, _, _, _, .inr (.inl ⟨rfl, rfl, c1, c2⟩), rfl, rfl, rfl, rfl⟩
          case measure => decide
        · have hR0 : R = (0, 0) := by
            rcases hcase'.out with h | h
            · exact absurd h.2.1 hc
            · exact h.2
          have hR0' := Lib.hid hR0
          have hc' : b1 < 128 ∨ 191 < b1 := by unfold cont at hc; omega
          clear hR0 hc
          rcases hc' with hc' | hc'
          all_goals
            go_wp2
            go_ret2
            exact ⟨by rw [hR0'.out]; rfl, rfl⟩
      · obtain ⟨c1, c2⟩ := hc
        by_cases hd : cont b2
        · obtain ⟨d1, d2⟩ := hd
          go_wp2
          go_round
          case rel => exact ⟨_, _, _, _, .inr (.inr (.inl ⟨rfl, rfl, ⟨c1, c2⟩, d1, d2⟩)), rfl, rfl, rfl, rfl⟩
          case measure => decide
        · have hR0 : R = (0, 0) := by
            rcases hcase'.out with h | h
            · exact absurd h.2.2.1 hd
            · exact h.2
          have hR0' := Lib.hid hR0
          have hc' : b2 < 128 ∨ 191 < b2 := by unfold cont at hd; omega
          clear hR0 hd
          rcases hc' with hc' | hc'
          all_goals
            go_wp2
            go_ret2
            exact ⟨by rw [hR0'.out]; rfl, rfl⟩
      · obtain ⟨c1, c2⟩ := hc1
        obtain ⟨d1, d2⟩ := hc2
        by_cases hd : cont b3
        · obtain ⟨e1, e2⟩ := hd
          go_wp2
          go_round
          case rel => exact ⟨_, _, _, _, .inr (.inr (.inr ⟨rfl, rfl, ⟨c1, c2⟩, ⟨d1, d2⟩, e1, e2⟩)), rfl, rfl, rfl, rfl⟩
          case measure => decide
        · have hR0 : R = (0, 0) := by
            rcases hcase'.out with h | h
            · exact absurd h.2.2.2.1 hd
            · exact h.2
          have hR0' := Lib.hid hR0
          have hc' : b3 < 128 ∨ 191 < b3 := by unfold cont at hd; omega
          clear hR0 hd
          rcases hc' with hc' | hc'
          all_goals
            go_wp2
            go_ret2
            exact ⟨by rw [hR0'.out]; rfl, rfl⟩
      · have hv : (64 * (64 * (64 * ((b0 : Int) - 240) + b1 - 128) + b2 - 128) + b3 - 128) = (v4 b0 b1 b2 b3 : Int) := by unfold v4; have := hc1.1; have := hc2.1; have := hc3.1; omega
        have hvb : v4 b0 b1 b2 b3 ≤ 2097151 := by unfold v4; have := hc1.2; have := hc2.2; have := hc3.2; omega
        rw [hv]
        obtain ⟨v, hv2⟩ : ∃ v, v4 b0 b1 b2 b3 = v := ⟨_, rfl⟩
        have hcase2 := hcase'.out
        rw [hv2] at hcase2 hvb ⊢
        clear hv hv2 hcase'
        rcases hcase2 with ⟨_, _, _, _, h3, h4, h5⟩ | ⟨h3, h5⟩
        · have h5' := Lib.hid h5
          clear h5
          go_wp2
          go_ret2
          exact ⟨by rw [h5'.out]; rfl, rfl⟩
        · have h4 : v < 65536 ∨ 1114111 < v := by
            rcases Nat.lt_or_ge v 65536 with h | h
            · exact .inl h
            · right
              rcases Nat.lt_or_ge 1114111 v with h6 | h6
              · exact h6
              · exact absurd ⟨by omega, hc1, hc2, hc3, h, h6⟩ h3
          have h5' := Lib.hid h5
          clear h5 h3
          rcases h4 with h4 | h4
          all_goals
            go_wp2
            go_ret2
            exact ⟨by rw [h5'.out]; rfl, rfl⟩

set_option maxHeartbeats 2000000 in
set_option maxRecDepth 100000 in
theorem rune_any (s : ByteArray) (w : World) (hs : s.size ≤ 9223372036854775807) :
    Calls Tryz.prog 75 #[.string s] w fun e w' => e = runeE (rune s.data.toList) ∧ w = w' := by
  by_cases h0 : s.size = 0
  · have hn : s.data.toList = [] := List.eq_nil_of_length_eq_zero (by rw [← Lib.size_eq]; exact h0)
    rw [hn]
    have hz : ((s.size : Int) == 0) = true := by simp [h0]
    clear hn h0
    go_enter Tryz.func75, Tryz.ntmps75
    go_wp2
    go_ret2
    exact ⟨rfl, rfl⟩
  have hne : s.data.toList ≠ [] := fun h => h0 (by rw [Lib.size_eq, h]; rfl)
  rw [rune_eq _ hne, ← Lib.size_eq]
  have hp : 0 < s.size := by omega
  have hlt := at_lt s 0
  by_cases c1 : at' s 0 < 128
  · have hR := Lib.hid (runeN_one s.size (at' s 0) (at' s 1) (at' s 2) (at' s 3) c1)
    have g0 := at_get s 0 hp
    clear hne h0
    have hb : (s.data.toList.getD 0 0).toNat = at' s 0 := rfl
    have h1 : (s.data.toList.getD 1 0).toNat = at' s 1 := rfl
    have h2 : (s.data.toList.getD 2 0).toNat = at' s 2 := rfl
    have h3 : (s.data.toList.getD 3 0).toNat = at' s 3 := rfl
    rw [hb, h1, h2, h3, hR.out]
    obtain ⟨b0, hb0⟩ : ∃ b, at' s 0 = b := ⟨_, rfl⟩
    rw [hb0] at g0 c1 hlt ⊢
    clear hR hb h1 h2 h3 hb0
    go_enter Tryz.func75, Tryz.ntmps75
    go_wp2
    go_ret2
    exact ⟨rfl, rfl⟩
  by_cases c2 : at' s 0 < 192 ∨ 248 ≤ at' s 0
  · have hR := Lib.hid (runeN_none s.size (at' s 0) (at' s 1) (at' s 2) (at' s 3) (by omega))
    have g0 := at_get s 0 hp
    clear hne h0
    have hb : (s.data.toList.getD 0 0).toNat = at' s 0 := rfl
    have h1 : (s.data.toList.getD 1 0).toNat = at' s 1 := rfl
    have h2 : (s.data.toList.getD 2 0).toNat = at' s 2 := rfl
    have h3 : (s.data.toList.getD 3 0).toNat = at' s 3 := rfl
    rw [hb, h1, h2, h3, hR.out]
    obtain ⟨b0, hb0⟩ : ∃ b, at' s 0 = b := ⟨_, rfl⟩
    rw [hb0] at g0 c1 c2 hlt
    clear hR hb h1 h2 h3 hb0
    rcases c2 with c2 | c2
    all_goals
      go_enter Tryz.func75, Tryz.ntmps75
      go_wp2
      go_ret2
      exact ⟨rfl, rfl⟩
  by_cases c3 : at' s 0 < 224
  · exact rune_two s w hs hp (by omega) c3
  by_cases c4 : at' s 0 < 240
  · exact rune_three s w hs hp (by omega) c4
  · exact rune_four s w hs hp (by omega) (by omega)
end Go.Proofs.YtmmpojhjpghdlaaGreatDoor.Ch

/-
  THE WALK OF THE REFERENCE's Valid.
-/
set_option linter.unusedVariables false
namespace Go.Proofs.YtmmpojhjpghdlaaGreatDoor.Ch
open Go.Lib Go.RowKit

def strLen : Value → Nat
  | .string t => t.size
  | _ => 0
theorem drop_text (t : ByteArray) (k : Nat) : (t.extract k t.size).data.toList = t.data.toList.drop k := by
  exact Lib.extract_to_end t k

set_option maxHeartbeats 2000000 in
set_option maxRecDepth 100000 in
theorem refValid_any (s : ByteArray) (w : World) (hs : s.size ≤ 9223372036854775807) :
    Calls Tryz.prog 45 #[.string s] w fun e w' => e = .returned (.bool (valid s.data.toList)) ∧ w = w' := by
  obtain ⟨A, hA⟩ : ∃ A, valid s.data.toList = A := ⟨_, rfl⟩
  rw [hA]
  have hA' := Lib.hid hA
  clear hA
  go_enter Tryz.func45, Tryz.ntmps45
  go_wp2
  go_loop [0] (fun s0 => ∃ t : ByteArray, s0 = .string t ∧ valid t.data.toList = A ∧ t.size ≤ 9223372036854775807) (fun s0 => strLen s0)
  case atStart => exact ⟨s, rfl, hA'.out, hs⟩
  case round =>
    obtain ⟨t, rfl, hv, ht⟩ := hrel
    have hv' := Lib.hid hv
    clear hv
    by_cases h0 : t.size = 0
    · have hn : A = true := by
        rw [← hv'.out, List.eq_nil_of_length_eq_zero (show t.data.toList.length = 0 by rw [← Lib.size_eq]; exact h0)]; rfl
      have hn' := Lib.hid hn
      clear hn
      go_wp2
      go_ret
      exact ⟨by rw [hn'.out]; rfl, rfl⟩
    · have hp : 0 < t.size := by omega
      have hne : t.data.toList ≠ [] := fun h => h0 (by rw [Lib.size_eq, h]; rfl)
      have hstep := valid_step t.data.toList hne
      obtain ⟨⟨r, n⟩, hr⟩ : ∃ p, rune t.data.toList = p := ⟨_, rfl⟩
      rw [hr] at hstep
      have hstep' := Lib.hid hstep
      have hbound : n ≠ 0 → n ≤ t.size := fun h => by
        have := (rune_tells hne (by rw [hr]; exact h)).1
        rw [hr, ← Lib.size_eq] at this
        exact this
      have cR : ∀ W, Calls Tryz.prog 75 #[.string t] W fun e w' => e = .returned (.tuple #[.int .i64 (r : Int), .int .i64 (n : Int)]) ∧ W = w' := fun W => by
        have := rune_any t W ht
        rw [hr] at this
        exact this
      clear hr hstep hne h0
      by_cases hbad : n = 0 ∨ ctlN r = true
      · have hn : A = false := by rw [← hv'.out, hstep'.out, if_pos hbad]
        have hn' := Lib.hid hn
        have hb2 : n = 0 ∨ (n ≠ 0 ∧ r = 127) ∨ (n ≠ 0 ∧ r ≠ 127 ∧ r < 32 ∧ r ≠ 9 ∧ r ≠ 10 ∧ r ≠ 13) := by
          rcases hbad with h | h
          · exact .inl h
          · have := of_decide_eq_true h
            omega
        clear hn hbad hbound
        rcases hb2 with h | ⟨h, h1⟩ | ⟨h, h1, h2, h3, h4, h5⟩
        · subst h
          go_wp2_with (go_at_call 75; refine (cR _).mono ?_; rintro e w' ⟨rfl, rfl⟩)
          go_ret
          exact ⟨by rw [hn'.out]; rfl, rfl⟩
        · subst h1
          have d0 : ((n : Int) == 0) = false := by simp; omega
          go_wp2_with (go_at_call 75; refine (cR _).mono ?_; rintro e w' ⟨rfl, rfl⟩)
          go_ret
          exact ⟨by rw [hn'.out]; rfl, rfl⟩
        · have d0 : ((n : Int) == 0) = false := by simp; omega
          have d1 : ((r : Int) == 127) = false := by simp; omega
          have d3 : ((r : Int) != 9) = true := by simp; omega
          have d4 : ((r : Int) != 10) = true := by simp; omega
          have d5 : ((r : Int) != 13) = true := by simp; omega
          go_wp2_with (go_at_call 75; refine (cR _).mono ?_; rintro e w' ⟨rfl, rfl⟩)
          go_ret
          exact ⟨by rw [hn'.out]; rfl, rfl⟩
      · have hn : valid (t.data.toList.drop n) = A := by rw [← hv'.out, hstep'.out, if_neg hbad]
        have hn' := Lib.hid hn
        have hb1 : n ≠ 0 := fun h => hbad (.inl h)
        have hb2 : (32 ≤ r ∧ r ≠ 127) ∨ r = 9 ∨ r = 10 ∨ r = 13 := by
          have h : ¬ ctlN r = true := fun h => hbad (.inr h)
          unfold ctlN at h
          rw [decide_eq_true_iff] at h
          omega
        have hle := hbound hb1
        clear hn hbad hbound
        have d0 : ((n : Int) == 0) = false := by simp; omega
        rcases hb2 with ⟨h1, h2⟩ | rfl | rfl | rfl
        · have d1 : ((r : Int) == 127) = false := by simp; omega
          go_wp2_with (go_at_call 75; refine (cR _).mono ?_; rintro e w' ⟨rfl, rfl⟩)
          go_round
          case rel => exact ⟨_, rfl, by rw [drop_text]; exact hn'.out, by rw [ByteArray.size_extract]; omega⟩
          case measure => simp [strLen, ByteArray.size_extract]; omega
        all_goals
          go_wp2_with (go_at_call 75; refine (cR _).mono ?_; rintro e w' ⟨rfl, rfl⟩)
          go_round
          case rel => exact ⟨_, rfl, by rw [drop_text]; exact hn'.out, by rw [ByteArray.size_extract]; omega⟩
          case measure => simp [strLen, ByteArray.size_extract]; omega
end Go.Proofs.YtmmpojhjpghdlaaGreatDoor.Ch

/-
  WALKS OF THE REFERENCE OF LAYER xml: blank, Blanks, first, Name.
-/
set_option linter.unusedVariables false
namespace Go.Proofs.YtmmpojhjpghdlaaGreatDoor.Xm
open Go.Lib Go.RowKit

theorem ret_bool {a b : Bool} (h : a = b) : Ending.returned (.bool a) = .returned (.bool b) := by rw [h]
theorem byte_is (b : UInt8) (v : Nat) (h : b.toNat = v) (n : Nat) (hn : n < 256) : (b = UInt8.ofNat n ↔ v = n) := by
  rw [← h]
  constructor
  · intro e; rw [e]; simp; omega
  · intro e; rw [← e]; simp
theorem blk_of (b : UInt8) (v : Nat) (h : b.toNat = v) : Hid (∀ r : Bool, (r = true ↔ (v = 32 ∨ v = 9 ∨ v = 10 ∨ v = 13)) → r = blk b) := Lib.hid fun r hr => by
  have e1 := byte_is b v h 32 (by decide)
  have e2 := byte_is b v h 9 (by decide)
  have e3 := byte_is b v h 10 (by decide)
  have e4 := byte_is b v h 13 (by decide)
  rw [Bool.eq_iff_iff, hr]
  unfold blk
  simp only [Bool.or_eq_true, beq_iff_eq]
  rw [← e1, ← e2, ← e3, ← e4]
  constructor
  · rintro (h | h | h | h) <;> simp [h]
  · rintro (((h | h) | h) | h) <;> simp [h]
theorem ft_of (b : UInt8) (v : Nat) (h : b.toNat = v) : Hid (∀ r : Bool, (r = true ↔ ((97 ≤ v ∧ v ≤ 122) ∨ (65 ≤ v ∧ v ≤ 90) ∨ v = 95)) → r = ftB b) := Lib.hid fun r hr => by
  unfold ftB
  rw [h, Bool.eq_iff_iff, hr, decide_eq_true_iff]

set_option maxHeartbeats 2000000 in
set_option maxRecDepth 100000 in
theorem refBlank_any (b : UInt8) (w : World) : Calls Tryz.prog 49 #[.int .u8 (b.toNat : Int)] w fun e w' => e = .returned (.bool (blk b)) ∧ w' = w := by
  have H := blk_of b b.toNat rfl
  generalize blk b = R at H ⊢
  generalize b.toNat = v at H ⊢
  go_enter Tryz.func49, Tryz.ntmps49
  go_wp2
  all_goals
    go_ret
    exact ⟨ret_bool (H.out _ (by first | omega | (simp; omega))), rfl⟩
set_option maxHeartbeats 2000000 in
set_option maxRecDepth 100000 in
theorem refFirst_any (b : UInt8) (w : World) : Calls Tryz.prog 141 #[.int .u8 (b.toNat : Int)] w fun e w' => e = .returned (.bool (ftB b)) ∧ w' = w := by
  have H := ft_of b b.toNat rfl
  generalize ftB b = R at H ⊢
  generalize b.toNat = v at H ⊢
  go_enter Tryz.func141, Tryz.ntmps141
  go_wp2
  all_goals
    go_ret
    exact ⟨ret_bool (H.out _ (by first | omega | (simp; omega))), rfl⟩

theorem all_step {p : UInt8 → Bool} {s : ByteArray} {k : Nat} (hk : k < s.size) (h : (s.data.toList.take k).all p = true) : (s.data.toList.take (k + 1)).all p = p (s[k]'hk) := by
  have hl : k < s.data.toList.length := by rw [← Lib.size_eq]; exact hk
  rw [List.take_succ_eq_append_getElem hl, List.all_append, h]
  simp
  rfl
theorem all_no {p : UInt8 → Bool} {s : ByteArray} {k : Nat} (hk : k < s.size) (h : p (s[k]'hk) = false) : s.data.toList.all p = false := by
  have hl : k < s.data.toList.length := by rw [← Lib.size_eq]; exact hk
  cases ha : s.data.toList.all p with
  | false => rfl
  | true =>
    have := List.all_eq_true.1 ha _ (List.getElem_mem hl)
    rw [show s.data.toList[k] = s[k]'hk from rfl, h] at this
    cases this
set_option maxHeartbeats 2000000 in
set_option maxRecDepth 100000 in
theorem refBlanks_any (s : ByteArray) (w : World) (hs : s.size ≤ 9223372036854775807) : Calls Tryz.prog 54 #[.string s] w fun e w' => e = .returned (.bool (blanks s.data.toList)) ∧ w' = w := by
  unfold blanks
  obtain ⟨R, hR⟩ : ∃ R, s.data.toList.all blk = R := ⟨_, rfl⟩
  rw [hR]
  have hR' := Lib.hid hR
  clear hR
  go_enter Tryz.func54, Tryz.ntmps54
  go_wp2
  go_loopw [3] (fun s3 wr => ∃ k : Nat, s3 = .int .i64 (k : Int) ∧ k ≤ s.size ∧ (s.data.toList.take k).all blk = true ∧ wr = w) (fun s3 wr => s.size - (RowKit.intOf s3).toNat)
  case atStart => exact ⟨0, rfl, Nat.zero_le _, rfl, rfl⟩
  case round =>
    obtain ⟨k, rfl, hk, hall, rfl⟩ := hrel
    by_cases hlt : k < s.size
    · have hst := all_step hlt hall
      have hno := all_no (p := blk) hlt
      obtain ⟨c, hc⟩ : ∃ c, s[k]'hlt = c := ⟨_, rfl⟩
      rw [hc] at hst hno
      have cB := refBlank_any c wr
      cases hb : blk c with
      | true =>
        rw [hb] at cB hst
        have hst' := Lib.hid hst
        clear hst hall hno hb
        go_wp2_with fail
        go_at_call 49
        with_reducible refine cB.mono ?_
        rintro e w3 ⟨rfl, rfl⟩
        clear cB
        go_wp2
        go_roundw
        case rel => exact ⟨k + 1, by go_num, by omega, hst'.out, trivial⟩
        case measure => simp [RowKit.intOf]; omega
      | false =>
        rw [hb] at cB
        have hRf : R = false := by rw [← hR'.out]; exact hno hb
        clear hst hall hno hb
        subst hRf
        go_wp2_with fail
        go_at_call 49
        with_reducible refine cB.mono ?_
        rintro e w3 ⟨rfl, rfl⟩
        clear cB
        go_wp2
        go_ret
        exact ⟨rfl, rfl⟩
    · have hRt : R = true := by
        rw [← hR'.out, ← hall, List.take_of_length_le (by rw [← Lib.size_eq]; omega)]
      clear hall
      subst hRt
      go_wp2
      go_ret
      exact ⟨rfl, rfl⟩
/-- what Name answers at a text's beginning -/
def nameN (t : Row) : Nat := if 64 < nlen t then 0 else nlen t
theorem nlen_le (t : Row) : nlen t ≤ t.length := by
  cases t with
  | nil => exact Nat.le_refl _
  | cons c r =>
    show (if ftB c = true then (r.takeWhile nxB).length + 1 else 0) ≤ _
    have := (List.takeWhile_sublist nxB (l := r)).length_le
    split
    · rw [List.length_cons]; omega
    · exact Nat.zero_le _
theorem nameN_is (t : Row) : (nameN t = t.length ∧ t.length ≠ 0) ↔ nameB t = true := by
  cases t with
  | nil => simp [nameB]
  | cons c r =>
    unfold nameN
    have hn : nlen (c :: r) = if ftB c = true then (r.takeWhile nxB).length + 1 else 0 := rfl
    have hb : nameB (c :: r) = (ftB c && r.all nxB && decide (r.length < 64)) := rfl
    have hl := (List.takeWhile_sublist nxB (l := r)).length_le
    rw [hn, hb, List.length_cons]
    cases hc : ftB c with
    | false => simp
    | true =>
      rw [if_pos rfl]
      simp only [Bool.true_and, Bool.and_eq_true, decide_eq_true_eq]
      constructor
      · rintro ⟨h, _⟩
        split at h
        · omega
        · have e : r.takeWhile nxB = r := (List.takeWhile_sublist nxB).eq_of_length (by omega)
          have := List.all_takeWhile (p := nxB) (l := r)
          rw [e] at this
          exact ⟨this, by omega⟩
      · rintro ⟨h1, h2⟩
        have e : r.takeWhile nxB = r := by
          have := takeWhile_front r [] h1 (fun x hx => by cases hx)
          rwa [List.append_nil] at this
        rw [e, if_neg (by omega)]
        exact ⟨rfl, by omega⟩
theorem nx_of (b : UInt8) (v : Nat) (h : b.toNat = v) (hf : ftB b = false) : Hid (∀ r : Bool, (r = true ↔ ((48 ≤ v ∧ v ≤ 57) ∨ v = 45 ∨ v = 46)) → nxB b = r) := Lib.hid fun r hr => by
  unfold nxB
  rw [h, hf, Bool.false_or, Bool.eq_iff_iff, hr, decide_eq_true_iff]
theorem drop_head (s : ByteArray) (k : Nat) (hk : k < s.size) : s.data.toList.drop k = s[k]'hk :: s.data.toList.drop (k + 1) := by
  have hl : k < s.data.toList.length := by rw [← Lib.size_eq]; exact hk
  rw [List.drop_eq_getElem_cons hl]; rfl
theorem nl_start {s : ByteArray} (h : 0 < s.size) (hc : ftB (s[0]'h) = true) : nlen s.data.toList = 1 + ((s.data.toList.drop 1).takeWhile nxB).length := by
  have := drop_head s 0 h
  rw [List.drop_zero] at this
  conv => lhs; rw [this]
  show (if ftB (s[0]'h) = true then _ else _) = _
  rw [if_pos hc, Nat.zero_add, Nat.add_comm]
theorem nl_no {s : ByteArray} (h : 0 < s.size) (hc : ftB (s[0]'h) = false) : nlen s.data.toList = 0 := by
  have := drop_head s 0 h
  rw [List.drop_zero] at this
  conv => lhs; rw [this]
  show (if ftB (s[0]'h) = true then _ else _) = _
  rw [if_neg (by rw [hc]; decide)]
theorem nl_step {s : ByteArray} {k n : Nat} (hk : k < s.size) (hc : nxB (s[k]'hk) = true) (h : n = k + ((s.data.toList.drop k).takeWhile nxB).length) : n = k + 1 + ((s.data.toList.drop (k + 1)).takeWhile nxB).length := by
  rw [drop_head s k hk, List.takeWhile_cons, if_pos hc, List.length_cons] at h
  omega
theorem nl_stop {s : ByteArray} {k n : Nat} (hk : k < s.size) (hc : nxB (s[k]'hk) = false) (h : n = k + ((s.data.toList.drop k).takeWhile nxB).length) : n = k := by
  rw [drop_head s k hk, List.takeWhile_cons, if_neg (by rw [hc]; decide)] at h
  simpa using h
theorem nl_end {s : ByteArray} {k n : Nat} (hk : s.size ≤ k) (h : n = k + ((s.data.toList.drop k).takeWhile nxB).length) : n = k := by
  rw [List.drop_eq_nil_of_le (by rw [← Lib.size_eq]; exact hk)] at h
  simpa using h
theorem name_out {t : Row} {k : Nat} (h : nlen t = k) : Hid ((64 < k → nameN t = 0) ∧ (¬ 64 < k → nameN t = k)) := Lib.hid (by
  unfold nameN
  rw [h]
  exact ⟨fun q => if_pos q, fun q => if_neg q⟩)
theorem ret_nat {a b : Nat} (h : a = b) : Ending.returned (.int .i64 (a : Int)) = .returned (.int .i64 (b : Int)) := by rw [h]

set_option maxHeartbeats 2000000 in
set_option maxRecDepth 100000 in
theorem refName_any (s : ByteArray) (w : World) (hs : s.size ≤ 140737488355328) : Calls Tryz.prog 124 #[.string s, .int .i64 0] w fun e w' => e = .returned (.int .i64 (nameN s.data.toList : Int)) ∧ w' = w := by
  by_cases h0 : 0 < s.size
  · obtain ⟨c, hc⟩ : ∃ c, s[0]'h0 = c := ⟨_, rfl⟩
    have cF := fun W => refFirst_any c W
    have hne : ¬ s = ByteArray.empty := fun e => by rw [e] at h0; exact absurd h0 (by decide)
    cases hf : ftB c with
    | false =>
      have hn : nameN s.data.toList = 0 := by unfold nameN; rw [nl_no h0 (by rw [hc]; exact hf)]; rfl
      rw [hn]
      rw [hf] at cF
      clear hn hf
      go_enter Tryz.func124, Tryz.ntmps124
      go_wp2_with fail
      go_at_call 141
      with_reducible refine (cF _).mono ?_
      rintro e w3 ⟨rfl, rfl⟩
      go_wp2
      go_ret
      exact ⟨rfl, rfl⟩
    | true =>
      have hst := Lib.hid (nl_start h0 (by rw [hc]; exact hf))
      rw [hf] at cF
      clear hf
      obtain ⟨N, hN⟩ : ∃ N, nlen s.data.toList = N := ⟨_, rfl⟩
      rw [hN] at hst
      have hN' := Lib.hid hN
      clear hN
      go_enter Tryz.func124, Tryz.ntmps124
      go_wp2_with fail
      go_at_call 141
      with_reducible refine (cF _).mono ?_
      rintro e w3 ⟨rfl, rfl⟩
      clear cF hc
      go_wp2
      go_loopw [5] (fun s5 wr => ∃ k : Nat, s5 = .int .i64 (k : Int) ∧ 1 ≤ k ∧ k ≤ s.size ∧ N = k + ((s.data.toList.drop k).takeWhile nxB).length ∧ wr = w3) (fun s5 wr => s.size - (RowKit.intOf s5).toNat)
      case atStart => exact ⟨1, rfl, Nat.le_refl _, h0, hst.out, rfl⟩
      case round =>
        obtain ⟨k, rfl, hk1, hk, hall, rfl⟩ := hrel
        by_cases hlt : k < s.size
        · have hg1 : decide ((k : Int) < (s.size : Int)) = true := decide_eq_true (by omega)
          have hst2 := nl_step (n := N) hlt
          have hsp2 := nl_stop (n := N) hlt
          obtain ⟨c, hc⟩ : ∃ c, s[k]'hlt = c := ⟨_, rfl⟩
          rw [hc] at hst2 hsp2
          have cF := fun W => refFirst_any c W
          cases hf : ftB c with
          | true =>
            have hn := Lib.hid (hst2 (ft_nx hf) hall)
            rw [hf] at cF
            clear hst2 hsp2 hf hall
            go_wp2_with fail
            go_at_call 141
            with_reducible refine (cF _).mono ?_
            rintro e w4 ⟨rfl, rfl⟩
            go_wp2
            go_roundw
            case rel => exact ⟨k + 1, by go_num, by omega, by omega, hn.out, trivial⟩
            case measure => simp [RowKit.intOf]; omega
          | false =>
            have H := nx_of c c.toNat rfl hf
            rw [hf] at cF
            cases hx : nxB c with
            | true =>
              have hn := Lib.hid (hst2 hx hall)
              have hv : Hid (¬ ((48 ≤ c.toNat ∧ c.toNat ≤ 57) ∨ c.toNat = 45 ∨ c.toNat = 46) → False) := Lib.hid fun q => by
                have := H.out false (by simp only [Bool.false_eq_true, false_iff]; exact q)
                rw [hx] at this; cases this
              clear hst2 hsp2 hf hall H hx
              go_wp2_with fail
              go_at_call 141
              with_reducible refine (cF _).mono ?_
              rintro e w4 ⟨rfl, rfl⟩
              clear cF
              go_wp2
              all_goals
                first
                  | (exfalso; exact hv.out (by first | omega | (simp only [beq_eq_false_iff_ne, ne_eq, beq_iff_eq] at *; omega)))
                  | (go_roundw
                     case rel => exact ⟨k + 1, by go_num, by omega, by omega, hn.out, trivial⟩
                     case measure => simp [RowKit.intOf]; omega)
            | false =>
              have hk2 : N = k := hsp2 hx hall
              have hv : Hid (((48 ≤ c.toNat ∧ c.toNat ≤ 57) ∨ c.toNat = 45 ∨ c.toNat = 46) → False) := Lib.hid fun q => by
                have := H.out true (by simp only [true_iff]; exact q)
                rw [hx] at this; cases this
              subst hk2
              have ho := name_out hN'.out
              clear hst2 hsp2 hf hall H hx
              go_wp2_with fail
              go_at_call 141
              with_reducible refine (cF _).mono ?_
              rintro e w4 ⟨rfl, rfl⟩
              clear cF
              go_wp2
              all_goals
                first
                  | (exfalso; exact hv.out (by first | omega | (simp only [beq_eq_false_iff_ne, ne_eq, beq_iff_eq] at *; omega)))
                  | (go_ret; exact ⟨by first | (rw [ho.out.1 (by omega)]; rfl) | (rw [ho.out.2 (by omega)]; rfl), rfl⟩)
        · have hk2 : N = k := nl_end (by omega) hall
          subst hk2
          have ho := name_out hN'.out
          clear hall
          go_wp2
          all_goals
            go_ret
            exact ⟨by first | (rw [ho.out.1 (by omega)]; rfl) | (rw [ho.out.2 (by omega)]; rfl), rfl⟩
  · have hn : nameN s.data.toList = 0 := by
      have : s.data.toList = [] := List.eq_nil_of_length_eq_zero (by rw [← Lib.size_eq]; omega)
      rw [this]; rfl
    rw [hn]
    clear hn
    have hne : s = ByteArray.empty := by
      obtain ⟨d⟩ := s
      have : d = #[] := Array.eq_empty_of_size_eq_zero (by simp only [ByteArray.size] at h0; omega)
      rw [this]; rfl
    subst hne
    go_enter Tryz.func124, Tryz.ntmps124
    go_wp2
    go_ret
    exact ⟨rfl, rfl⟩
end Go.Proofs.YtmmpojhjpghdlaaGreatDoor.Xm

/-
  THE WALK OF THE REFERENCE's Same: pieces compared.
-/
set_option linter.unusedVariables false
namespace Go.Proofs.YtmmpojhjpghdlaaGreatDoor.Xm
open Go.Lib Go.RowKit

def fieldG (f : Field) : Bool × TypeId × Nat := (decide (f.name ≠ "_"), f.type, f.offset)
theorem fields_pc : (Tryz.prog.fieldsOf 75).toList.map fieldG = [(true, 73, 0), (true, 22, 1), (true, 9, 2), (true, 9, 3)] := by kernel_rfl
theorem four_of {L : List Field} {a b c d : Bool × TypeId × Nat} (h : L.map fieldG = [a, b, c, d]) : ∃ f0 f1 f2 f3, L = [f0, f1, f2, f3] ∧ fieldG f0 = a ∧ fieldG f1 = b ∧ fieldG f2 = c ∧ fieldG f3 = d := by
  rcases L with _ | ⟨f0, _ | ⟨f1, _ | ⟨f2, _ | ⟨f3, _ | ⟨f4, L⟩⟩⟩⟩⟩ <;> simp at h
  exact ⟨f0, f1, f2, f3, rfl, h.1, h.2.1, h.2.2.1, h.2.2.2⟩
theorem field_run {f : Field} {t : TypeId} {o : Nat} (h : fieldG f = (true, t, o)) (d : Nat) (xs ys : Array Value) (fs : List Field) (W : World) (hk : Tryz.prog.plainKey t = true) (u v : Value) (b : Bool) (hx : xs[o]? = some u) (hy : ys[o]? = some v) (hE : (Op.equalIn d t u v).run Tryz.prog W = .ok b W) :
    (Op.eqFields d xs ys (f :: fs)).run Tryz.prog W = if b = true then (Op.eqFields d xs ys fs).run Tryz.prog W else .ok false W := by
  unfold fieldG at h
  simp only [Prod.mk.injEq, decide_eq_true_eq] at h
  obtain ⟨h1, rfl, rfl⟩ := h
  simp only [Op.eqFields, if_pos h1, Sem.run_bind]
  rw [run_part_plain W hk hx]
  simp only [Result.andThen_ok]
  rw [run_part_plain W hk hy]
  simp only [Result.andThen_ok]
  rw [hE]
  cases b <;> simp
set_option maxRecDepth 100000 in
theorem eq_pc (k1 s1 k2 s2 : Int) (n1 t1 n2 t2 : ByteArray) (W : World) : (Op.equalIn 10000 75 (.agg #[.int .i64 k1, .int .i64 s1, .string n1, .string t1]) (.agg #[.int .i64 k2, .int .i64 s2, .string n2, .string t2])).run Tryz.prog W = .ok (k1 == k2 && s1 == s2 && n1.toList == n2.toList && t1.toList == t2.toList) W := by
  rw [run_equalIn_struct W 9999 75 _ _ (by kernel_rfl) (by kernel_rfl)]
  obtain ⟨f0, f1, f2, f3, e, h0, h1, h2, h3⟩ := four_of fields_pc
  rw [e]
  rw [field_run h0 9999 _ _ _ W (by kernel_rfl) (.int .i64 k1) (.int .i64 k2) (k1 == k2) rfl rfl (run_equalIn_int W 9998 _ .i64 .i64 k1 k2 Tryz.underlying73)]
  rw [field_run h1 9999 _ _ _ W (by kernel_rfl) (.int .i64 s1) (.int .i64 s2) (s1 == s2) rfl rfl (run_equalIn_int W 9998 _ .i64 .i64 s1 s2 Tryz.underlying22)]
  rw [field_run h2 9999 _ _ _ W (by kernel_rfl) (.string n1) (.string n2) (n1.toList == n2.toList) rfl rfl (run_equalIn_string W 9998 _ n1 n2 Tryz.underlying9)]
  rw [field_run h3 9999 _ _ _ W (by kernel_rfl) (.string t1) (.string t2) (t1.toList == t2.toList) rfl rfl (run_equalIn_string W 9998 _ t1 t2 Tryz.underlying9)]
  cases k1 == k2 <;> cases s1 == s2 <;> cases n1.toList == n2.toList <;> cases t1.toList == t2.toList <;> simp [Op.eqFields]
theorem sv_str {l : Row} {x : ByteArray} (h : sv l = .string x) : x.data.toList = l := by
  unfold sv at h
  injection h with h
  rw [← h]
/-- one piece of a row, as it is loaded -/
theorem PcsAt.piece {w : World} {b off : Nat} {ps : List Pc} (h : ∀ (j : Nat) (p : Pc), ps[j]? = some p → PcCells w b (off + j * 4) p) (hlt : b < w.heap.size) {wr : World} (hb : Below w.heap.size w wr) {j : Nat} {p : Pc} (hj : ps[j]? = some p) :
    ∃ a1 a2 : ByteArray, a1.data.toList = p.name ∧ a2.data.toList = p.text ∧ wr.cell? ⟨b, off + j * 4, none⟩ = some (.int .i64 p.kind) ∧ wr.cell? ⟨b, off + j * 4 + 1, none⟩ = some (.int .i64 p.space) ∧ wr.cell? ⟨b, off + j * 4 + 2, none⟩ = some (.string a1) ∧ wr.cell? ⟨b, off + j * 4 + 3, none⟩ = some (.string a2) := by
  obtain ⟨g0, g1, g2, g3⟩ := (h j p hj).kept hlt hb
  obtain ⟨a1, e1, d1⟩ := sv_some p.name
  obtain ⟨a2, e2, d2⟩ := sv_some p.text
  rw [e1] at g2
  rw [e2] at g3
  exact ⟨a1, a2, d1, d2, g0, g1, g2, g3⟩
theorem pc_eq {p q : Pc} {a1 a2 b1 b2 : ByteArray} (h1 : a1.data.toList = p.name) (h2 : a2.data.toList = p.text) (g1 : b1.data.toList = q.name) (g2 : b2.data.toList = q.text) : (p.kind == q.kind && p.space == q.space && a1.toList == b1.toList && a2.toList == b2.toList) = decide (p = q) := by
  rw [Lib.toList_data, Lib.toList_data, Lib.toList_data, Lib.toList_data, h1, h2, g1, g2, Bool.eq_iff_iff, decide_eq_true_iff]
  simp only [Bool.and_eq_true, beq_iff_eq]
  constructor
  · rintro ⟨⟨⟨e1, e2⟩, e3⟩, e4⟩
    cases p; cases q
    simp_all
  · rintro rfl
    simp
theorem take_next {α : Type} {xs ys : List α} {k : Nat} {x : α} (h : xs.take k = ys.take k) (hx : xs[k]? = some x) (hy : ys[k]? = some x) : xs.take (k + 1) = ys.take (k + 1) := by
  obtain ⟨h1, e1⟩ := List.getElem?_eq_some_iff.1 hx
  obtain ⟨h2, e2⟩ := List.getElem?_eq_some_iff.1 hy
  rw [List.take_succ_eq_append_getElem h1, List.take_succ_eq_append_getElem h2, h, e1, e2]
set_option maxHeartbeats 4000000 in
set_option maxRecDepth 100000 in
theorem refSame_any (v1 v2 : Value) (ps qs : List Pc) (w : World) (h1 : PcsAt w v1 ps) (h2 : PcsAt w v2 qs) :
    Calls Tryz.prog 36 #[v1, v2] w fun e w' => e = .returned (.bool (decide (ps = qs))) ∧ Below w.heap.size w w' := by
  obtain ⟨A, b, off, c, rfl, hc1, hc2, hA, hP⟩ := h1
  obtain ⟨B, b', off', c', rfl, hd1, hd2, hB, hQ⟩ := h2
  unfold maxLen at hc2 hd2
  obtain ⟨R, hR⟩ : ∃ R, decide (ps = qs) = R := ⟨_, rfl⟩
  rw [hR]
  by_cases gn : ps.length = qs.length
  · obtain ⟨n, hn⟩ : ∃ n, ps.length = n := ⟨_, rfl⟩
    have hm : qs.length = n := by omega
    have hno : Hid (∀ (k : Nat) (p q : Pc), ps[k]? = some p → qs[k]? = some q → p ≠ q → R = false) := Lib.hid fun k p q hp hq hne => by
      rw [← hR]
      refine decide_eq_false fun e => ?_
      rw [e, hq] at hp
      exact hne (Option.some.inj hp).symm
    have hyes : Hid (ps.take n = qs.take n → R = true) := Lib.hid fun h => by
      rw [List.take_of_length_le (by omega), List.take_of_length_le (by omega)] at h
      rw [← hR]; exact decide_eq_true h
    rw [hn] at hc1 hA ⊢
    rw [hm] at hd1 hB ⊢
    have hn' := Lib.hid hn
    have hm' := Lib.hid hm
    have hP' := Lib.hid hP
    have hQ' := Lib.hid hQ
    have hA' := Lib.hid hA
    have hB' := Lib.hid hB
    clear gn hn hm hP hQ hA hB hR
    go_enter Tryz.func36, Tryz.ntmps36
    go_wp2
    go_loopw [13] (fun s13 wr => ∃ k : Nat, s13 = .int .i64 (k : Int) ∧ k ≤ n ∧ ps.take k = qs.take k ∧ Below w.heap.size w wr) (fun s13 wr => n - (RowKit.intOf s13).toNat)
    case atStart => exact ⟨0, rfl, Nat.zero_le _, rfl, Below.refl _ _⟩
    case round =>
      obtain ⟨k, rfl, hk, heq, hbr⟩ := hrel
      by_cases hlt : k < n
      · have hp : ps[k]? = some (ps[k]'(by have := hn'.out; omega)) := List.getElem?_eq_getElem _
        have hq : qs[k]? = some (qs[k]'(by have := hm'.out; omega)) := List.getElem?_eq_getElem _
        obtain ⟨P, hPe⟩ : ∃ P, ps[k]'(by have := hn'.out; omega) = P := ⟨_, rfl⟩
        obtain ⟨Q, hQe⟩ : ∃ Q, qs[k]'(by have := hm'.out; omega) = Q := ⟨_, rfl⟩
        rw [hPe] at hp
        rw [hQe] at hq
        clear hPe hQe
        obtain ⟨rfl, hAb⟩ := hA'.out (by omega)
        obtain ⟨rfl, hBb⟩ := hB'.out (by omega)
        obtain ⟨a1, a2, d1, d2, p0, p1, p2, p3⟩ := PcsAt.piece hP'.out hAb hbr hp
        obtain ⟨b1, b2, g1, g2, q0, q1, q2, q3⟩ := PcsAt.piece hQ'.out hBb hbr hq
        have hE := eq_pc P.kind P.space Q.kind Q.space a1 a2 b1 b2
        rw [pc_eq d1 d2 g1 g2] at hE
        have hno2 := hno.out k P Q hp hq
        have hbr' := Lib.hid hbr
        by_cases hpq : P = Q
        · have hnx := Lib.hid (take_next heq (by rw [hp, hpq]) hq)
          rw [decide_eq_true hpq] at hE
          clear d1 d2 g1 g2 hp hq hpq hno2 heq hbr
          go_wp2
          go_quiet (fail)
          go_wp2
          go_roundw
          case rel => exact ⟨k + 1, by go_num, by omega, hnx.out, below_drewN _ hbr'.out⟩
          case measure => simp [RowKit.intOf]; omega
        · have hRf := hno2 hpq
          rw [decide_eq_false hpq] at hE
          subst hRf
          clear d1 d2 g1 g2 hp hq hpq hno2 heq hbr
          go_wp2
          go_quiet (fail)
          go_wp2
          go_ret
          exact ⟨rfl, below_drewN _ hbr'.out⟩
      · have hRt := hyes.out (by rw [show n = k by omega]; exact heq)
        subst hRt
        clear heq
        go_wp2
        go_ret
        exact ⟨rfl, by assumption⟩
  · have hRf : R = false := by
      rw [← hR]
      exact decide_eq_false fun e => gn (by rw [e])
    subst hRf
    have g1 : ¬ (ps.length : Int) = (qs.length : Int) := by omega
    clear hR hP hQ hA hB
    go_enter Tryz.func36, Tryz.ntmps36
    go_wp2
    go_ret
    exact ⟨rfl, Below.refl _ _⟩
end Go.Proofs.YtmmpojhjpghdlaaGreatDoor.Xm

/-
  THE WALK OF THE REFERENCE's Right: are pieces a document's?
-/
set_option linter.unusedVariables false
namespace Go.Proofs.YtmmpojhjpghdlaaGreatDoor.Xm
open Go.Lib Go.RowKit

/-- what is open, as rgt has it -/
def stk (os : List Pc) : List (Row × Int) := (os.map fun p => (p.name, p.space)).reverse
theorem stk_snoc (os : List Pc) (p : Pc) : stk (os ++ [p]) = (p.name, p.space) :: stk os := by simp [stk]
theorem stk_len (os : List Pc) : (stk os).length = os.length := by simp [stk]
theorem stk_nil (os : List Pc) : stk os = [] ↔ os = [] := by simp [stk]
/-- the kind of the piece ahead -/
def was (ps : List Pc) (k : Nat) : Bool := decide (0 < k ∧ ∃ p, ps[k - 1]? = some p ∧ p.kind = 3)
theorem was_next {ps : List Pc} {k : Nat} {p : Pc} (h : ps[k]? = some p) : was ps (k + 1) = decide (p.kind = 3) := by
  unfold was
  rw [Nat.add_sub_cancel, h]
  simp
theorem drop_next {ps : List Pc} {k : Nat} {p : Pc} (h : ps[k]? = some p) : ps.drop k = p :: ps.drop (k + 1) := by
  obtain ⟨h1, e1⟩ := List.getElem?_eq_some_iff.1 h
  rw [List.drop_eq_getElem_cons h1, e1]
theorem rgt_1 {f c : Bool} {st : List (Row × Int)} {p : Pc} {r : List Pc} (h0 : f = true ∨ st ≠ []) (hk : p.kind = 1) (ho : okTag p = true) (hl : st.length < 16) : rgt f c st (p :: r) = rgt false false ((p.name, p.space) :: st) r := by
  conv => lhs; unfold rgt
  have h1 : (f || !st.isEmpty) = true := by simpa using h0
  rw [if_pos hk, h1, ho, decide_eq_true hl]; rfl
theorem rgt_2 {f c : Bool} {st : List (Row × Int)} {p : Pc} {r : List Pc} (hk : p.kind = 2) (ho : okTag p = true) : rgt f c ((p.name, p.space) :: st) (p :: r) = rgt false false st r := by
  conv => lhs; unfold rgt
  rw [if_neg (by rw [hk]; decide), if_pos hk, ho]
  simp
theorem rgt_3 {st : List (Row × Int)} {p : Pc} {r : List Pc} (h0 : st ≠ []) (hk : p.kind = 3) (ho : okTxt p = true) : rgt false false st (p :: r) = rgt false true st r := by
  conv => lhs; unfold rgt
  have h1 : (false || !st.isEmpty) = true := by simpa using h0
  rw [if_neg (by rw [hk]; decide), if_neg (by rw [hk]; decide), if_pos hk, h1, ho]; rfl
theorem rgt_no {f c : Bool} {st : List (Row × Int)} {p : Pc} {r : List Pc} {R : Bool} (h : rgt f c st (p :: r) = R) (hn : ¬ ((f = true ∨ st ≠ []) ∧
    ((p.kind = 1 ∧ okTag p = true ∧ st.length < 16) ∨ (p.kind = 2 ∧ okTag p = true ∧ ∃ s, st = (p.name, p.space) :: s) ∨ (p.kind = 3 ∧ f = false ∧ c = false ∧ okTxt p = true)))) : R = false := by
  cases R with
  | false => rfl
  | true =>
    obtain ⟨h0, h1⟩ := rgt_cons h
    refine absurd ⟨h0, ?_⟩ hn
    rcases h1 with ⟨a, b, c, _⟩ | ⟨a, b, s, c, _⟩ | ⟨a, b, c, d, _⟩
    · exact .inl ⟨a, b, c⟩
    · exact .inr (.inl ⟨a, b, s, c⟩)
    · exact .inr (.inr ⟨a, b, c, d⟩)
theorem okTag_of {p : Pc} {a1 a2 : ByteArray} (d1 : a1.data.toList = p.name) (d2 : a2.data.toList = p.text) : okTag p = true ↔ (a2.size = 0 ∧ (0 ≤ p.space ∧ p.space ≤ 2)) ∧ (nameN a1.data.toList = a1.size ∧ a1.size ≠ 0) := by
  unfold okTag
  simp only [Bool.and_eq_true, decide_eq_true_eq, List.isEmpty_iff]
  rw [← d1, ← nameN_is, ← d2, Lib.size_eq, Lib.size_eq, List.length_eq_zero_iff]
theorem okTxt_of {p : Pc} {a1 a2 : ByteArray} (d1 : a1.data.toList = p.name) (d2 : a2.data.toList = p.text) : okTxt p = true ↔ (a1.size = 0 ∧ p.space = 0) ∧ (Ch.valid a2.data.toList = true ∧ blanks a2.data.toList = false) := by
  unfold okTxt
  simp only [Bool.and_eq_true, decide_eq_true_eq, List.isEmpty_iff, Bool.not_eq_true']
  rw [← d1, ← d2, Lib.size_eq, List.length_eq_zero_iff]

end Go.Proofs.YtmmpojhjpghdlaaGreatDoor.Xm

/-
  PLAIN LAWS OF LAYER xml: the printed text chunk by chunk, at a place.
-/
set_option linter.unusedVariables false
namespace Go.Proofs.YtmmpojhjpghdlaaGreatDoor.Xm

/-- was the piece ahead an element's beginning? -/
def was1 (ps : List Pc) (k : Nat) : Bool := decide (0 < k ∧ ∃ p, ps[k - 1]? = some p ∧ p.kind = 1)
theorem chunks_at : ∀ (ps : List Pc) (f o : Bool) (k : Nat) (p : Pc), ps[k]? = some p → (chunks f o ps)[k]? = some (chunk (if k = 0 then f else false) (if k = 0 then o else was1 ps k) p (ps.drop (k + 1)))
  | [], _, _, k, p, h => by simp at h
  | q :: r, f, o, 0, p, h => by
    simp at h; subst h
    rfl
  | q :: r, f, o, k + 1, p, h => by
    have h' : r[k]? = some p := by simpa using h
    have := chunks_at r false (decide (q.kind = 1)) k p h'
    show (chunks false (decide (q.kind = 1)) r)[k]? = _
    rw [this, if_neg (c := k + 1 = 0) (by omega), if_neg (c := k + 1 = 0) (by omega), show (if k = 0 then false else false) = false by split <;> rfl]
    congr 2
    cases k with
    | zero =>
      rw [if_pos rfl]
      unfold was1
      simp
    | succ k =>
      rw [if_neg (by omega)]
      unfold was1
      simp
theorem chunks_len : ∀ (ps : List Pc) (f o : Bool), (chunks f o ps).length = ps.length
  | [], _, _ => rfl
  | p :: r, f, o => by show (chunks false _ r).length + 1 = _; rw [chunks_len r]; rfl
/-- what is printed ahead of a piece -/
def preX (ps : List Pc) (k : Nat) : Row := ((chunks true false ps).take k).flatten
theorem preX_zero (ps : List Pc) : preX ps 0 = [] := rfl
theorem preX_all (ps : List Pc) : preX ps ps.length = prX ps := by
  unfold preX prX
  rw [List.take_of_length_le (by rw [chunks_len]; exact Nat.le_refl _)]
theorem preX_succ {ps : List Pc} {k : Nat} {p : Pc} (h : ps[k]? = some p) : preX ps (k + 1) = preX ps k ++ chunk (decide (k = 0)) (was1 ps k) p (ps.drop (k + 1)) := by
  have hc := chunks_at ps true false k p h
  have hlt := (List.getElem?_eq_some_iff.1 hc).1
  unfold preX
  rw [List.take_succ_eq_append_getElem hlt, List.flatten_append, List.flatten_cons, List.flatten_nil, List.append_nil]
  congr 1
  rw [(List.getElem?_eq_some_iff.1 hc).2]
  by_cases hk : k = 0
  · rw [if_pos hk, if_pos hk, decide_eq_true hk]
    congr 1
    unfold was1
    simp [hk]
  · rw [if_neg hk, if_neg hk, decide_eq_false hk]
theorem flat_take_le : ∀ (C : List Row) (k : Nat), ((C.take k).flatten).length ≤ C.flatten.length
  | [], k => by simp
  | c :: C, 0 => by simp
  | c :: C, k + 1 => by
    have := flat_take_le C k
    rw [take_flat_succ, List.flatten_cons, List.length_append, List.length_append]; omega
theorem preX_le (ps : List Pc) (k : Nat) : (preX ps k).length ≤ (prX ps).length := flat_take_le _ k
/-- what a right piece is -/
theorem rgt_at : ∀ (ps : List Pc) (f c : Bool) (st : List (Row × Int)), rgt f c st ps = true → ∀ (k : Nat) (p : Pc), ps[k]? = some p →
    (p.kind = 1 ∧ okTag p = true ∧ ∃ q, ps[k + 1]? = some q) ∨ (p.kind = 2 ∧ okTag p = true ∧ (k = 0 → st ≠ [])) ∨ (p.kind = 3 ∧ okTxt p = true)
  | [], _, _, _, _, k, p, hp => by simp at hp
  | q :: r, f, c, st, h, 0, p, hp => by
    simp at hp; subst hp
    obtain ⟨_, hk⟩ := rgt_cons h
    rcases hk with ⟨hk, ho, _, hr⟩ | ⟨hk, ho, s, hs, _⟩ | ⟨hk, _, _, ho, _⟩
    · refine .inl ⟨hk, ho, ?_⟩
      cases r with
      | nil => cases hr
      | cons z r => exact ⟨z, rfl⟩
    · exact .inr (.inl ⟨hk, ho, fun _ e => by rw [hs] at e; cases e⟩)
    · exact .inr (.inr ⟨hk, ho⟩)
  | q :: r, f, c, st, h, k + 1, p, hp => by
    have hp' : r[k]? = some p := by simpa using hp
    obtain ⟨_, hk⟩ := rgt_cons h
    have key : ∀ (f' c' : Bool) (st' : List (Row × Int)), rgt f' c' st' r = true → _ := fun f' c' st' hr => rgt_at r f' c' st' hr k p hp'
    have fin : ((p.kind = 1 ∧ okTag p = true ∧ ∃ q, r[k + 1]? = some q) ∨ (p.kind = 2 ∧ okTag p = true ∧ (k = 0 → True)) ∨ (p.kind = 3 ∧ okTxt p = true)) := by
      rcases hk with ⟨_, _, _, hr⟩ | ⟨_, _, s, _, hr⟩ | ⟨_, _, _, _, hr⟩
      all_goals
        rcases key _ _ _ hr with h | ⟨h1, h2, _⟩ | h
        · exact .inl h
        · exact .inr (.inl ⟨h1, h2, fun _ => trivial⟩)
        · exact .inr (.inr h)
    rcases fin with ⟨h1, h2, q', h3⟩ | ⟨h1, h2, _⟩ | h
    · exact .inl ⟨h1, h2, q', by simpa using h3⟩
    · exact .inr (.inl ⟨h1, h2, fun e => by omega⟩)
    · exact .inr (.inr h)
theorem nameB_len {n : Row} (h : nameB n = true) : n.length ≤ 64 := by
  cases n with
  | nil => simp
  | cons c t =>
    simp only [nameB, Bool.and_eq_true, decide_eq_true_eq] at h
    rw [List.length_cons]; omega
theorem escT_take (t : Row) (k : Nat) (hk : k < t.length) : escT (t.take (k + 1)) = escT (t.take k) ++ esc t[k] := by
  rw [List.take_succ_eq_append_getElem hk, escT_append]
  congr 1
  simp [escT]
theorem escT_len_take (t : Row) (k : Nat) : (escT (t.take k)).length ≤ (escT t).length := by
  conv => rhs; rw [← List.take_append_drop k t, escT_append, List.length_append]
  omega
end Go.Proofs.YtmmpojhjpghdlaaGreatDoor.Xm
