import Derived.Test.YtjeagjleolmibaaGreatDoorMg7
import Derived.Test.YtjeagjleolmibaaGreatDoorMg6
import Derived.IntWalk
import Derived.BigQuiet
import Derived.Deep.QuietTactic
import Derived.LoopTactic

/-
  THE WALKS OF THE REFERENCE's Rune AND Valid.
-/
set_option linter.unusedVariables false
namespace Go.Proofs.YtjeagjleolmibaaGreatDoor.Ch
open Go.Lib Go.RowKit

def runeE (p : Nat × Nat) : Ending := .returned (.tuple #[.int .i64 (p.1 : Int), .int .i64 (p.2 : Int)])
/-- byte j, nought behind the end -/
def at' (s : ByteArray) (j : Nat) : Nat := (s.data.toList.getD j 0).toNat
theorem at_get (s : ByteArray) (j : Nat) (h : j < s.size) : ((s[j]'h).toNat : Int) = (at' s j : Int) := by
  unfold at'
  have hl : j < s.data.toList.length := by rw [← Lib.size_eq]; exact h
  rw [List.getD_eq_getElem?_getD, List.getElem?_eq_getElem hl]
  rfl
theorem at_lt (s : ByteArray) (j : Nat) : at' s j < 256 := (s.data.toList.getD j 0).toNat_lt

/-- The rounds for a character of two bytes: where the place is, what has been gathered. -/
def Rel2 (b0 b1 : Nat) (b i : Value) : Prop := (i = .int .i64 1 ∧ b = .int .i64 ((b0 : Int) - 192)) ∨ (i = .int .i64 2 ∧ b = .int .i64 (64 * ((b0 : Int) - 192) + b1 - 128) ∧ cont b1)

set_option maxHeartbeats 2000000 in
set_option maxRecDepth 100000 in
theorem rune_two (s : ByteArray) (w : World) (hs : s.size ≤ 9223372036854775807) (h0 : 0 < s.size) (h1 : 192 ≤ at' s 0) (h2 : at' s 0 < 224) :
    Calls Tryz.prog 37 #[.string s] w fun e w' => e = runeE (runeN s.size (at' s 0) (at' s 1) (at' s 2) (at' s 3)) ∧ w = w' := by
  have g0 := at_get s 0 h0
  have gl1 := at_lt s 1
  obtain ⟨b0, hb0⟩ : ∃ b, at' s 0 = b := ⟨_, rfl⟩
  obtain ⟨b1, hb1⟩ : ∃ b, at' s 1 = b := ⟨_, rfl⟩
  rw [hb0] at g0 h1 h2 ⊢
  rw [hb1] at gl1 ⊢
  obtain ⟨R, hR⟩ : ∃ R, runeN s.size b0 b1 (at' s 2) (at' s 3) = R := ⟨_, rfl⟩
  have hcase := runeN_two s.size b0 b1 (at' s 2) (at' s 3) h1 h2
  rw [hR] at hcase ⊢
  have hb1' := Lib.hid hb1
  have hcase' := Lib.hid hcase
  clear hR hb0 hb1 hcase
  by_cases hz : s.size < 2
  · have hR0 : R = (0, 0) := by
      rcases hcase'.out with h | h
      · omega
      · exact h.2
    have hR0' := Lib.hid hR0
    clear hR0
    go_enter Tryz.func37, Tryz.ntmps37
    go_wp2
    go_ret2
    exact ⟨by rw [hR0'.out]; rfl, rfl⟩
  · have g1 := at_get s 1 (by omega)
    rw [hb1'.out] at g1
    go_enter Tryz.func37, Tryz.ntmps37
    go_wp2
    go_loop [4, 7] (fun b i => Rel2 b0 b1 b i) (fun _ i => 2 - (RowKit.intOf i).toNat)
    case atStart => exact .inl ⟨rfl, rfl⟩
    case round =>
      rcases hrel with ⟨rfl, rfl⟩ | ⟨rfl, rfl, hc⟩
      · by_cases hc : cont b1
        · obtain ⟨c1, c2⟩ := hc
          go_wp2
          go_round
          case rel => exact ⟨_, _, _, _, .inr ⟨rfl, rfl, c1, c2⟩, rfl, rfl, rfl, rfl⟩
          case measure => decide
        · have hR0 : R = (0, 0) := by
            rcases hcase'.out with h | h
            · exact absurd h.2.1 hc
            · exact h.2
          have hR0' := Lib.hid hR0
          have hc' : b1 < 128 ∨ 191 < b1 := by unfold cont at hc; omega
          clear hR0 hc
          rcases hc' with hc' | hc'
          all_goals
            go_wp2
            go_ret2
            exact ⟨by rw [hR0'.out]; rfl, rfl⟩
      · have hv : (64 * ((b0 : Int) - 192) + b1 - 128) = (v2 b0 b1 : Int) := by unfold v2; have := hc.1; omega
        rw [hv]
        obtain ⟨v, hv2⟩ : ∃ v, v2 b0 b1 = v := ⟨_, rfl⟩
        have hcase2 := hcase'.out
        rw [hv2] at hcase2 ⊢
        clear hv hv2 hcase'
        rcases hcase2 with ⟨_, _, h3, h4, h5⟩ | ⟨h3, h5⟩
        · have h5' := Lib.hid h5
          clear h5
          go_wp2
          go_ret2
          exact ⟨by rw [h5'.out]; rfl, rfl⟩
        · have h4 : v < 128 := by
            rcases Nat.lt_or_ge v 128 with h | h
            · exact h
            · exact absurd ⟨by omega, hc, h⟩ h3
          have h5' := Lib.hid h5
          clear h5 h3
          go_wp2
          go_ret2
          exact ⟨by rw [h5'.out]; rfl, rfl⟩

/-- Three bytes. -/
def Rel3 (b0 b1 b2 : Nat) (b i : Value) : Prop := (i = .int .i64 1 ∧ b = .int .i64 ((b0 : Int) - 224)) ∨ (i = .int .i64 2 ∧ b = .int .i64 (64 * ((b0 : Int) - 224) + b1 - 128) ∧ cont b1) ∨
  (i = .int .i64 3 ∧ b = .int .i64 (64 * (64 * ((b0 : Int) - 224) + b1 - 128) + b2 - 128) ∧ cont b1 ∧ cont b2)

set_option maxHeartbeats 4000000 in
set_option maxRecDepth 100000 in
theorem rune_three (s : ByteArray) (w : World) (hs : s.size ≤ 9223372036854775807) (h0 : 0 < s.size) (h1 : 224 ≤ at' s 0) (h2 : at' s 0 < 240) :
    Calls Tryz.prog 37 #[.string s] w fun e w' => e = runeE (runeN s.size (at' s 0) (at' s 1) (at' s 2) (at' s 3)) ∧ w = w' := by
  have g0 := at_get s 0 h0
  have gl1 := at_lt s 1
  have gl2 := at_lt s 2
  obtain ⟨b0, hb0⟩ : ∃ b, at' s 0 = b := ⟨_, rfl⟩
  obtain ⟨b1, hb1⟩ : ∃ b, at' s 1 = b := ⟨_, rfl⟩
  obtain ⟨b2, hb2⟩ : ∃ b, at' s 2 = b := ⟨_, rfl⟩
  rw [hb0] at g0 h1 h2 ⊢
  rw [hb1] at gl1 ⊢
  rw [hb2] at gl2 ⊢
  obtain ⟨R, hR⟩ : ∃ R, runeN s.size b0 b1 b2 (at' s 3) = R := ⟨_, rfl⟩
  have hcase := runeN_three s.size b0 b1 b2 (at' s 3) h1 h2
  rw [hR] at hcase ⊢
  have hb1' := Lib.hid hb1
  have hb2' := Lib.hid hb2
  have hcase' := Lib.hid hcase
  clear hR hb0 hb1 hb2 hcase
  by_cases hz : s.size < 3
  · have hR0 : R = (0, 0) := by
      rcases hcase'.out with h | h
      · omega
      · exact h.2
    have hR0' := Lib.hid hR0
    clear hR0
    go_enter Tryz.func37, Tryz.ntmps37
    go_wp2
    go_ret2
    exact ⟨by rw [hR0'.out]; rfl, rfl⟩
  · have g1 := at_get s 1 (by omega)
    have g2 := at_get s 2 (by omega)
    rw [hb1'.out] at g1
    rw [hb2'.out] at g2
    go_enter Tryz.func37, Tryz.ntmps37
    go_wp2
    go_loop [4, 7] (fun b i => Rel3 b0 b1 b2 b i) (fun _ i => 3 - (RowKit.intOf i).toNat)
    case atStart => exact .inl ⟨rfl, rfl⟩
    case round =>
      rcases hrel with ⟨rfl, rfl⟩ | ⟨rfl, rfl, hc⟩ | ⟨rfl, rfl, hc1, hc2⟩
      · by_cases hc : cont b1
        · obtain ⟨c1, c2⟩ := hc
          go_wp2
          go_round
          case rel => exact ⟨_, _, _, _, .inr (.inl ⟨rfl, rfl, c1, c2⟩), rfl, rfl, rfl, rfl⟩
          case measure => decide
        · have hR0 : R = (0, 0) := by
            rcases hcase'.out with h | h
            · exact absurd h.2.1 hc
            · exact h.2
          have hR0' := Lib.hid hR0
          have hc' : b1 < 128 ∨ 191 < b1 := by unfold cont at hc; omega
          clear hR0 hc
          rcases hc' with hc' | hc'
          all_goals
            go_wp2
            go_ret2
            exact ⟨by rw [hR0'.out]; rfl, rfl⟩
      · obtain ⟨c1, c2⟩ := hc
        by_cases hd : cont b2
        · obtain ⟨d1, d2⟩ := hd
          go_wp2
          go_round
          case rel => exact ⟨_, _, _, _, .inr (.inr ⟨rfl, rfl, ⟨c1, c2⟩, d1, d2⟩), rfl, rfl, rfl, rfl⟩
          case measure => decide
        · have hR0 : R = (0, 0) := by
            rcases hcase'.out with h | h
            · exact absurd h.2.2.1 hd
            · exact h.2
          have hR0' := Lib.hid hR0
          have hc' : b2 < 128 ∨ 191 < b2 := by unfold cont at hd; omega
          clear hR0 hd
          rcases hc' with hc' | hc'
          all_goals
            go_wp2
            go_ret2
            exact ⟨by rw [hR0'.out]; rfl, rfl⟩
      · have hv : (64 * (64 * ((b0 : Int) - 224) + b1 - 128) + b2 - 128) = (v3 b0 b1 b2 : Int) := by unfold v3; have := hc1.1; have := hc2.1; omega
        have hvb : v3 b0 b1 b2 ≤ 65535 := by unfold v3; have := hc1.2; have := hc2.2; omega
        rw [hv]
        obtain ⟨v, hv2⟩ : ∃ v, v3 b0 b1 b2 = v := ⟨_, rfl⟩
        have hcase2 := hcase'.out
        rw [hv2] at hcase2 hvb ⊢
        clear hv hv2 hcase'
        rcases hcase2 with ⟨_, _, _, h3, h4, h6, h5⟩ | ⟨h3, h5⟩
        · have h5' := Lib.hid h5
          have h7 : v < 55296 ∨ 57343 < v := by omega
          clear h5 h6
          rcases h7 with h7 | h7
          all_goals
            go_wp2
            go_ret2
            exact ⟨by rw [h5'.out]; rfl, rfl⟩
        · have h4 : v < 2048 ∨ (55296 ≤ v ∧ v ≤ 57343) := by
            rcases Nat.lt_or_ge v 2048 with h | h
            · exact .inl h
            · right
              by_cases h6 : 55296 ≤ v ∧ v ≤ 57343
              · exact h6
              · exact absurd ⟨by omega, hc1, hc2, h, h6⟩ h3
          have h5' := Lib.hid h5
          clear h5 h3
          rcases h4 with h4 | ⟨h4, h6⟩
          all_goals
            go_wp2
            go_ret2
            exact ⟨by rw [h5'.out]; rfl, rfl⟩

/-- Four bytes. -/
def Rel4 (b0 b1 b2 b3 : Nat) (b i : Value) : Prop := (i = .int .i64 1 ∧ b = .int .i64 ((b0 : Int) - 240)) ∨ (i = .int .i64 2 ∧ b = .int .i64 (64 * ((b0 : Int) - 240) + b1 - 128) ∧ cont b1) ∨
  (i = .int .i64 3 ∧ b = .int .i64 (64 * (64 * ((b0 : Int) - 240) + b1 - 128) + b2 - 128) ∧ cont b1 ∧ cont b2) ∨
  (i = .int .i64 4 ∧ b = .int .i64 (64 * (64 * (64 * ((b0 : Int) - 240) + b1 - 128) + b2 - 128) + b3 - 128) ∧ cont b1 ∧ cont b2 ∧ cont b3)

set_option maxHeartbeats 4000000 in
set_option maxRecDepth 100000 in
theorem rune_four (s : ByteArray) (w : World) (hs : s.size ≤ 9223372036854775807) (h0 : 0 < s.size) (h1 : 240 ≤ at' s 0) (h2 : at' s 0 < 248) :
    Calls Tryz.prog 37 #[.string s] w fun e w' => e = runeE (runeN s.size (at' s 0) (at' s 1) (at' s 2) (at' s 3)) ∧ w = w' := by
  have g0 := at_get s 0 h0
  have gl1 := at_lt s 1
  have gl2 := at_lt s 2
  have gl3 := at_lt s 3
  obtain ⟨b0, hb0⟩ : ∃ b, at' s 0 = b := ⟨_, rfl⟩
  obtain ⟨b1, hb1⟩ : ∃ b, at' s 1 = b := ⟨_, rfl⟩
  obtain ⟨b2, hb2⟩ : ∃ b, at' s 2 = b := ⟨_, rfl⟩
  obtain ⟨b3, hb3⟩ : ∃ b, at' s 3 = b := ⟨_, rfl⟩
  rw [hb0] at g0 h1 h2 ⊢
  rw [hb1] at gl1 ⊢
  rw [hb2] at gl2 ⊢
  rw [hb3] at gl3 ⊢
  obtain ⟨R, hR⟩ : ∃ R, runeN s.size b0 b1 b2 b3 = R := ⟨_, rfl⟩
  have hcase := runeN_four s.size b0 b1 b2 b3 h1 h2
  rw [hR] at hcase ⊢
  have hb1' := Lib.hid hb1
  have hb2' := Lib.hid hb2
  have hb3' := Lib.hid hb3
  have hcase' := Lib.hid hcase
  clear hR hb0 hb1 hb2 hb3 hcase
  by_cases hz : s.size < 4
  · have hR0 : R = (0, 0) := by
      rcases hcase'.out with h | h
      · omega
      · exact h.2
    have hR0' := Lib.hid hR0
    clear hR0
    go_enter Tryz.func37, Tryz.ntmps37
    go_wp2
    go_ret2
    exact ⟨by rw [hR0'.out]; rfl, rfl⟩
  · have g1 := at_get s 1 (by omega)
    have g2 := at_get s 2 (by omega)
    have g3 := at_get s 3 (by omega)
    rw [hb1'.out] at g1
    rw [hb2'.out] at g2
    rw [hb3'.out] at g3
    go_enter Tryz.func37, Tryz.ntmps37
    go_wp2
    go_loop [4, 7] (fun b i => Rel4 b0 b1 b2 b3 b i) (fun _ i => 4 - (RowKit.intOf i).toNat)
    case atStart => exact .inl ⟨rfl, rfl⟩
    case round =>
      rcases hrel with ⟨rfl, rfl⟩ | ⟨rfl, rfl, hc⟩ | ⟨rfl, rfl, hc1, hc2⟩ | ⟨rfl, rfl, hc1, hc2, hc3⟩
      · by_cases hc : cont b1
        · obtain ⟨c1, c2⟩ := hc
          go_wp2
          go_round
          case rel => exact ⟨_, _, _, _, .inr (.inl ⟨rfl, rfl, c1, c2⟩), rfl, rfl, rfl, rfl⟩
          case measure => decide
        · have hR0 : R = (0, 0) := by
            rcases hcase'.out with h | h
            · exact absurd h.2.1 hc
            · exact h.2
          have hR0' := Lib.hid hR0
          have hc' : b1 < 128 ∨ 191 < b1 := by unfold cont at hc; omega
          clear hR0 hc
          rcases hc' with hc' | hc'
          all_goals
            go_wp2
            go_ret2
            exact ⟨by rw [hR0'.out]; rfl, rfl⟩
      · obtain ⟨c1, c2⟩ := hc
        by_cases hd : cont b2
        · obtain ⟨d1, d2⟩ := hd
          go_wp2
          go_round
          case rel => exact ⟨_, _, _, _, .inr (.inr (.inl ⟨rfl, rfl, ⟨c1, c2⟩, d1, d2⟩)), rfl, rfl, rfl, rfl⟩
          case measure => decide
        · have hR0 : R = (0, 0) := by
            rcases hcase'.out with h | h
            · exact absurd h.2.2.1 hd
            · exact h.2
          have hR0' := Lib.hid hR0
          have hc' : b2 < 128 ∨ 191 < b2 := by unfold cont at hd; omega
          clear hR0 hd
          rcases hc' with hc' | hc'
          all_goals
            go_wp2
            go_ret2
            exact ⟨by rw [hR0'.out]; rfl, rfl⟩
      · obtain ⟨c1, c2⟩ := hc1
        obtain ⟨d1, d2⟩ := hc2
        by_cases hd : cont b3
        · obtain ⟨e1, e2⟩ := hd
          go_wp2
          go_round
          case rel => exact ⟨_, _, _, _, .inr (.inr (.inr ⟨rfl, rfl, ⟨c1, c2⟩, ⟨d1, d2⟩, e1, e2⟩)), rfl, rfl, rfl, rfl⟩
          case measure => decide
        · have hR0 : R = (0, 0) := by
            rcases hcase'.out with h | h
            · exact absurd h.2.2.2.1 hd
            · exact h.2
          have hR0' := Lib.hid hR0
          have hc' : b3 < 128 ∨ 191 < b3 := by unfold cont at hd; omega
          clear hR0 hd
          rcases hc' with hc' | hc'
          all_goals
            go_wp2
            go_ret2
            exact ⟨by rw [hR0'.out]; rfl, rfl⟩
      · have hv : (64 * (64 * (64 * ((b0 : Int) - 240) + b1 - 128) + b2 - 128) + b3 - 128) = (v4 b0 b1 b2 b3 : Int) := by unfold v4; have := hc1.1; have := hc2.1; have := hc3.1; omega
        have hvb : v4 b0 b1 b2 b3 ≤ 2097151 := by unfold v4; have := hc1.2; have := hc2.2; have := hc3.2; omega
        rw [hv]
        obtain ⟨v, hv2⟩ : ∃ v, v4 b0 b1 b2 b3 = v := ⟨_, rfl⟩
        have hcase2 := hcase'.out
        rw [hv2] at hcase2 hvb ⊢
        clear hv hv2 hcase'
        rcases hcase2 with ⟨_, _, _, _, h3, h4, h5⟩ | ⟨h3, h5⟩
        · have h5' := Lib.hid h5
          clear h5
          go_wp2
          go_ret2
          exact ⟨by rw [h5'.out]; rfl, rfl⟩
        · have h4 : v < 65536 ∨ 1114111 < v := by
            rcases Nat.lt_or_ge v 65536 with h | h
            · exact .inl h
            · right
              rcases Nat.lt_or_ge 1114111 v with h6 | h6
              · exact h6
              · exact absurd ⟨by omega, hc1, hc2, hc3, h, h6⟩ h3
          have h5' := Lib.hid h5
          clear h5 h3
          rcases h4 with h4 | h4
          all_goals
            go_wp2
            go_ret2
            exact ⟨by rw [h5'.out]; rfl, rfl⟩

set_option maxHeartbeats 2000000 in
set_option maxRecDepth 100000 in
theorem rune_any (s : ByteArray) (w : World) (hs : s.size ≤ 9223372036854775807) :
    Calls Tryz.prog 37 #[.string s] w fun e w' => e = runeE (rune s.data.toList) ∧ w = w' := by
  by_cases h0 : s.size = 0
  · have hn : s.data.toList = [] := List.eq_nil_of_length_eq_zero (by rw [← Lib.size_eq]; exact h0)
    rw [hn]
    have hz : ((s.size : Int) == 0) = true := by simp [h0]
    clear hn h0
    go_enter Tryz.func37, Tryz.ntmps37
    go_wp2
    go_ret2
    exact ⟨rfl, rfl⟩
  have hne : s.data.toList ≠ [] := fun h => h0 (by rw [Lib.size_eq, h]; rfl)
  rw [rune_eq _ hne, ← Lib.size_eq]
  have hp : 0 < s.size := by omega
  have hlt := at_lt s 0
  by_cases c1 : at' s 0 < 128
  · have hR := Lib.hid (runeN_one s.size (at' s 0) (at' s 1) (at' s 2) (at' s 3) c1)
    have g0 := at_get s 0 hp
    clear hne h0
    have hb : (s.data.toList.getD 0 0).toNat = at' s 0 := rfl
    have h1 : (s.data.toList.getD 1 0).toNat = at' s 1 := rfl
    have h2 : (s.data.toList.getD 2 0).toNat = at' s 2 := rfl
    have h3 : (s.data.toList.getD 3 0).toNat = at' s 3 := rfl
    rw [hb, h1, h2, h3, hR.out]
    obtain ⟨b0, hb0⟩ : ∃ b, at' s 0 = b := ⟨_, rfl⟩
    rw [hb0] at g0 c1 hlt ⊢
    clear hR hb h1 h2 h3 hb0
    go_enter Tryz.func37, Tryz.ntmps37
    go_wp2
    go_ret2
    exact ⟨rfl, rfl⟩
  by_cases c2 : at' s 0 < 192 ∨ 248 ≤ at' s 0
  · have hR := Lib.hid (runeN_none s.size (at' s 0) (at' s 1) (at' s 2) (at' s 3) (by omega))
    have g0 := at_get s 0 hp
    clear hne h0
    have hb : (s.data.toList.getD 0 0).toNat = at' s 0 := rfl
    have h1 : (s.data.toList.getD 1 0).toNat = at' s 1 := rfl
    have h2 : (s.data.toList.getD 2 0).toNat = at' s 2 := rfl
    have h3 : (s.data.toList.getD 3 0).toNat = at' s 3 := rfl
    rw [hb, h1, h2, h3, hR.out]
    obtain ⟨b0, hb0⟩ : ∃ b, at' s 0 = b := ⟨_, rfl⟩
    rw [hb0] at g0 c1 c2 hlt
    clear hR hb h1 h2 h3 hb0
    rcases c2 with c2 | c2
    all_goals
      go_enter Tryz.func37, Tryz.ntmps37
      go_wp2
      go_ret2
      exact ⟨rfl, rfl⟩
  by_cases c3 : at' s 0 < 224
  · exact rune_two s w hs hp (by omega) c3
  by_cases c4 : at' s 0 < 240
  · exact rune_three s w hs hp (by omega) c4
  · exact rune_four s w hs hp (by omega) (by omega)
end Go.Proofs.YtjeagjleolmibaaGreatDoor.Ch

/-
  THE WALK OF THE REFERENCE's Valid.
-/
set_option linter.unusedVariables false
namespace Go.Proofs.YtjeagjleolmibaaGreatDoor.Ch
open Go.Lib Go.RowKit

def strLen : Value → Nat
  | .string t => t.size
  | _ => 0
theorem drop_text (t : ByteArray) (k : Nat) : (t.extract k t.size).data.toList = t.data.toList.drop k := by
  exact Lib.extract_to_end t k

set_option maxHeartbeats 2000000 in
set_option maxRecDepth 100000 in
theorem refValid_any (s : ByteArray) (w : World) (hs : s.size ≤ 9223372036854775807) :
    Calls Tryz.prog 26 #[.string s] w fun e w' => e = .returned (.bool (valid s.data.toList)) ∧ w = w' := by
  obtain ⟨A, hA⟩ : ∃ A, valid s.data.toList = A := ⟨_, rfl⟩
  rw [hA]
  have hA' := Lib.hid hA
  clear hA
  go_enter Tryz.func26, Tryz.ntmps26
  go_wp2
  go_loop [0] (fun s0 => ∃ t : ByteArray, s0 = .string t ∧ valid t.data.toList = A ∧ t.size ≤ 9223372036854775807) (fun s0 => strLen s0)
  case atStart => exact ⟨s, rfl, hA'.out, hs⟩
  case round =>
    obtain ⟨t, rfl, hv, ht⟩ := hrel
    have hv' := Lib.hid hv
    clear hv
    by_cases h0 : t.size = 0
    · have hn : A = true := by
        rw [← hv'.out, List.eq_nil_of_length_eq_zero (show t.data.toList.length = 0 by rw [← Lib.size_eq]; exact h0)]; rfl
      have hn' := Lib.hid hn
      clear hn
      go_wp2
      go_ret
      exact ⟨by rw [hn'.out]; rfl, rfl⟩
    · have hp : 0 < t.size := by omega
      have hne : t.data.toList ≠ [] := fun h => h0 (by rw [Lib.size_eq, h]; rfl)
      have hstep := valid_step t.data.toList hne
      obtain ⟨⟨r, n⟩, hr⟩ : ∃ p, rune t.data.toList = p := ⟨_, rfl⟩
      rw [hr] at hstep
      have hstep' := Lib.hid hstep
      have hbound : n ≠ 0 → n ≤ t.size := fun h => by
        have := (rune_tells hne (by rw [hr]; exact h)).1
        rw [hr, ← Lib.size_eq] at this
        exact this
      have cR : ∀ W, Calls Tryz.prog 37 #[.string t] W fun e w' => e = .returned (.tuple #[.int .i64 (r : Int), .int .i64 (n : Int)]) ∧ W = w' := fun W => by
        have := rune_any t W ht
        rw [hr] at this
        exact this
      clear hr hstep hne h0
      by_cases hbad : n = 0 ∨ ctlN r = true
      · have hn : A = false := by rw [← hv'.out, hstep'.out, if_pos hbad]
        have hn' := Lib.hid hn
        have hb2 : n = 0 ∨ (n ≠ 0 ∧ r = 127) ∨ (n ≠ 0 ∧ r ≠ 127 ∧ r < 32 ∧ r ≠ 9 ∧ r ≠ 10 ∧ r ≠ 13) := by
          rcases hbad with h | h
          · exact .inl h
          · have := of_decide_eq_true h
            omega
        clear hn hbad hbound
        rcases hb2 with h | ⟨h, h1⟩ | ⟨h, h1, h2, h3, h4, h5⟩
        · subst h
          go_wp2_with (go_at_call 37; refine (cR _).mono ?_; rintro e w' ⟨rfl, rfl⟩)
          go_ret
          exact ⟨by rw [hn'.out]; rfl, rfl⟩
        · subst h1
          have d0 : ((n : Int) == 0) = false := by simp; omega
          go_wp2_with (go_at_call 37; refine (cR _).mono ?_; rintro e w' ⟨rfl, rfl⟩)
          go_ret
          exact ⟨by rw [hn'.out]; rfl, rfl⟩
        · have d0 : ((n : Int) == 0) = false := by simp; omega
          have d1 : ((r : Int) == 127) = false := by simp; omega
          have d3 : ((r : Int) != 9) = true := by simp; omega
          have d4 : ((r : Int) != 10) = true := by simp; omega
          have d5 : ((r : Int) != 13) = true := by simp; omega
          go_wp2_with (go_at_call 37; refine (cR _).mono ?_; rintro e w' ⟨rfl, rfl⟩)
          go_ret
          exact ⟨by rw [hn'.out]; rfl, rfl⟩
      · have hn : valid (t.data.toList.drop n) = A := by rw [← hv'.out, hstep'.out, if_neg hbad]
        have hn' := Lib.hid hn
        have hb1 : n ≠ 0 := fun h => hbad (.inl h)
        have hb2 : (32 ≤ r ∧ r ≠ 127) ∨ r = 9 ∨ r = 10 ∨ r = 13 := by
          have h : ¬ ctlN r = true := fun h => hbad (.inr h)
          unfold ctlN at h
          rw [decide_eq_true_iff] at h
          omega
        have hle := hbound hb1
        clear hn hbad hbound
        have d0 : ((n : Int) == 0) = false := by simp; omega
        rcases hb2 with ⟨h1, h2⟩ | rfl | rfl | rfl
        · have d1 : ((r : Int) == 127) = false := by simp; omega
          go_wp2_with (go_at_call 37; refine (cR _).mono ?_; rintro e w' ⟨rfl, rfl⟩)
          go_round
          case rel => exact ⟨_, rfl, by rw [drop_text]; exact hn'.out, by rw [ByteArray.size_extract]; omega⟩
          case measure => simp [strLen, ByteArray.size_extract]; omega
        all_goals
          go_wp2_with (go_at_call 37; refine (cR _).mono ?_; rintro e w' ⟨rfl, rfl⟩)
          go_round
          case rel => exact ⟨_, rfl, by rw [drop_text]; exact hn'.out, by rw [ByteArray.size_extract]; omega⟩
          case measure => simp [strLen, ByteArray.size_extract]; omega
end Go.Proofs.YtjeagjleolmibaaGreatDoor.Ch

/-
  WALKS OF THE REFERENCE OF LAYER xml: blank, Blanks, first, Name.
-/
set_option linter.unusedVariables false
namespace Go.Proofs.YtjeagjleolmibaaGreatDoor.Xm
open Go.Lib Go.RowKit

theorem ret_bool {a b : Bool} (h : a = b) : Ending.returned (.bool a) = .returned (.bool b) := by rw [h]
theorem byte_is (b : UInt8) (v : Nat) (h : b.toNat = v) (n : Nat) (hn : n < 256) : (b = UInt8.ofNat n ↔ v = n) := by
  rw [← h]
  constructor
  · intro e; rw [e]; simp; omega
  · intro e; rw [← e]; simp
theorem blk_of (b : UInt8) (v : Nat) (h : b.toNat = v) : Hid (∀ r : Bool, (r = true ↔ (v = 32 ∨ v = 9 ∨ v = 10 ∨ v = 13)) → r = blk b) := Lib.hid fun r hr => by
  have e1 := byte_is b v h 32 (by decide)
  have e2 := byte_is b v h 9 (by decide)
  have e3 := byte_is b v h 10 (by decide)
  have e4 := byte_is b v h 13 (by decide)
  rw [Bool.eq_iff_iff, hr]
  unfold blk
  simp only [Bool.or_eq_true, beq_iff_eq]
  rw [← e1, ← e2, ← e3, ← e4]
  constructor
  · rintro (h | h | h | h) <;> simp [h]
  · rintro (((h | h) | h) | h) <;> simp [h]
theorem ft_of (b : UInt8) (v : Nat) (h : b.toNat = v) : Hid (∀ r : Bool, (r = true ↔ ((97 ≤ v ∧ v ≤ 122) ∨ (65 ≤ v ∧ v ≤ 90) ∨ v = 95)) → r = ftB b) := Lib.hid fun r hr => by
  unfold ftB
  rw [h, Bool.eq_iff_iff, hr, decide_eq_true_iff]

set_option maxHeartbeats 2000000 in
set_option maxRecDepth 100000 in
theorem refBlank_any (b : UInt8) (w : World) : Calls Tryz.prog 31 #[.int .u8 (b.toNat : Int)] w fun e w' => e = .returned (.bool (blk b)) ∧ w' = w := by
  have H := blk_of b b.toNat rfl
  generalize blk b = R at H ⊢
  generalize b.toNat = v at H ⊢
  go_enter Tryz.func31, Tryz.ntmps31
  go_wp2
  all_goals
    go_ret
    exact ⟨ret_bool (H.out _ (by first | omega | (simp; omega))), rfl⟩
set_option maxHeartbeats 2000000 in
set_option maxRecDepth 100000 in
theorem refFirst_any (b : UInt8) (w : World) : Calls Tryz.prog 30 #[.int .u8 (b.toNat : Int)] w fun e w' => e = .returned (.bool (ftB b)) ∧ w' = w := by
  have H := ft_of b b.toNat rfl
  generalize ftB b = R at H ⊢
  generalize b.toNat = v at H ⊢
  go_enter Tryz.func30, Tryz.ntmps30
  go_wp2
  all_goals
    go_ret
    exact ⟨ret_bool (H.out _ (by first | omega | (simp; omega))), rfl⟩

theorem all_step {p : UInt8 → Bool} {s : ByteArray} {k : Nat} (hk : k < s.size) (h : (s.data.toList.take k).all p = true) : (s.data.toList.take (k + 1)).all p = p (s[k]'hk) := by
  have hl : k < s.data.toList.length := by rw [← Lib.size_eq]; exact hk
  rw [List.take_succ_eq_append_getElem hl, List.all_append, h]
  simp
  rfl
theorem all_no {p : UInt8 → Bool} {s : ByteArray} {k : Nat} (hk : k < s.size) (h : p (s[k]'hk) = false) : s.data.toList.all p = false := by
  have hl : k < s.data.toList.length := by rw [← Lib.size_eq]; exact hk
  cases ha : s.data.toList.all p with
  | false => rfl
  | true =>
    have := List.all_eq_true.1 ha _ (List.getElem_mem hl)
    rw [show s.data.toList[k] = s[k]'hk from rfl, h] at this
    cases this
set_option maxHeartbeats 2000000 in
set_option maxRecDepth 100000 in
theorem refBlanks_any (s : ByteArray) (w : World) (hs : s.size ≤ 9223372036854775807) : Calls Tryz.prog 17 #[.string s] w fun e w' => e = .returned (.bool (blanks s.data.toList)) ∧ w' = w := by
  unfold blanks
  obtain ⟨R, hR⟩ : ∃ R, s.data.toList.all blk = R := ⟨_, rfl⟩
  rw [hR]
  have hR' := Lib.hid hR
  clear hR
  go_enter Tryz.func17, Tryz.ntmps17
  go_wp2
  go_loopw [3] (fun s3 wr => ∃ k : Nat, s3 = .int .i64 (k : Int) ∧ k ≤ s.size ∧ (s.data.toList.take k).all blk = true ∧ wr = w) (fun s3 wr => s.size - (RowKit.intOf s3).toNat)
  case atStart => exact ⟨0, rfl, Nat.zero_le _, rfl, rfl⟩
  case round =>
    obtain ⟨k, rfl, hk, hall, rfl⟩ := hrel
    by_cases hlt : k < s.size
    · have hst := all_step hlt hall
      have hno := all_no (p := blk) hlt
      obtain ⟨c, hc⟩ : ∃ c, s[k]'hlt = c := ⟨_, rfl⟩
      rw [hc] at hst hno
      have cB := refBlank_any c wr
      cases hb : blk c with
      | true =>
        rw [hb] at cB hst
        have hst' := Lib.hid hst
        clear hst hall hno hb
        go_wp2_with fail
        go_at_call 31
        with_reducible refine cB.mono ?_
        rintro e w3 ⟨rfl, rfl⟩
        clear cB
        go_wp2
        go_roundw
        case rel => exact ⟨k + 1, by go_num, by omega, hst'.out, trivial⟩
        case measure => simp [RowKit.intOf]; omega
      | false =>
        rw [hb] at cB
        have hRf : R = false := by rw [← hR'.out]; exact hno hb
        clear hst hall hno hb
        subst hRf
        go_wp2_with fail
        go_at_call 31
        with_reducible refine cB.mono ?_
        rintro e w3 ⟨rfl, rfl⟩
        clear cB
        go_wp2
        go_ret
        exact ⟨rfl, rfl⟩
    · have hRt : R = true := by
        rw [← hR'.out, ← hall, List.take_of_length_le (by rw [← Lib.size_eq]; omega)]
      clear hall
      subst hRt
      go_wp2
      go_ret
      exact ⟨rfl, rfl⟩
/-- what Name answers at a text's beginning -/
def nameN (t : Row) : Nat := if 64 < nlen t then 0 else nlen t
theorem nlen_le (t : Row) : nlen t ≤ t.length := by
  cases t with
  | nil => exact Nat.le_refl _
  | cons c r =>
    show (if ftB c = true then (r.takeWhile nxB).length + 1 else 0) ≤ _
    have := (List.takeWhile_sublist nxB (l := r)).length_le
    split
    · rw [List.length_cons]; omega
    · exact Nat.zero_le _
theorem nameN_is (t : Row) : (nameN t = t.length ∧ t.length ≠ 0) ↔ nameB t = true := by
  cases t with
  | nil => simp [nameB]
  | cons c r =>
    unfold nameN
    have hn : nlen (c :: r) = if ftB c = true then (r.takeWhile nxB).length + 1 else 0 := rfl
    have hb : nameB (c :: r) = (ftB c && r.all nxB && decide (r.length < 64)) := rfl
    have hl := (List.takeWhile_sublist nxB (l := r)).length_le
    rw [hn, hb, List.length_cons]
    cases hc : ftB c with
    | false => simp
    | true =>
      rw [if_pos rfl]
      simp only [Bool.true_and, Bool.and_eq_true, decide_eq_true_eq]
      constructor
      · rintro ⟨h, _⟩
        split at h
        · omega
        · have e : r.takeWhile nxB = r := (List.takeWhile_sublist nxB).eq_of_length (by omega)
          have := List.all_takeWhile (p := nxB) (l := r)
          rw [e] at this
          exact ⟨this, by omega⟩
      · rintro ⟨h1, h2⟩
        have e : r.takeWhile nxB = r := by
          have := takeWhile_front r [] h1 (fun x hx => by cases hx)
          rwa [List.append_nil] at this
        rw [e, if_neg (by omega)]
        exact ⟨rfl, by omega⟩
theorem nx_of (b : UInt8) (v : Nat) (h : b.toNat = v) (hf : ftB b = false) : Hid (∀ r : Bool, (r = true ↔ ((48 ≤ v ∧ v ≤ 57) ∨ v = 45 ∨ v = 46)) → nxB b = r) := Lib.hid fun r hr => by
  unfold nxB
  rw [h, hf, Bool.false_or, Bool.eq_iff_iff, hr, decide_eq_true_iff]
theorem drop_head (s : ByteArray) (k : Nat) (hk : k < s.size) : s.data.toList.drop k = s[k]'hk :: s.data.toList.drop (k + 1) := by
  have hl : k < s.data.toList.length := by rw [← Lib.size_eq]; exact hk
  rw [List.drop_eq_getElem_cons hl]; rfl
theorem nl_start {s : ByteArray} (h : 0 < s.size) (hc : ftB (s[0]'h) = true) : nlen s.data.toList = 1 + ((s.data.toList.drop 1).takeWhile nxB).length := by
  have := drop_head s 0 h
  rw [List.drop_zero] at this
  conv => lhs; rw [this]
  show (if ftB (s[0]'h) = true then _ else _) = _
  rw [if_pos hc, Nat.zero_add, Nat.add_comm]
theorem nl_no {s : ByteArray} (h : 0 < s.size) (hc : ftB (s[0]'h) = false) : nlen s.data.toList = 0 := by
  have := drop_head s 0 h
  rw [List.drop_zero] at this
  conv => lhs; rw [this]
  show (if ftB (s[0]'h) = true then _ else _) = _
  rw [if_neg (by rw [hc]; decide)]
theorem nl_step {s : ByteArray} {k n : Nat} (hk : k < s.size) (hc : nxB (s[k]'hk) = true) (h : n = k + ((s.data.toList.drop k).takeWhile nxB).length) : n = k + 1 + ((s.data.toList.drop (k + 1)).takeWhile nxB).length := by
  rw [drop_head s k hk, List.takeWhile_cons, if_pos hc, List.length_cons] at h
  omega
theorem nl_stop {s : ByteArray} {k n : Nat} (hk : k < s.size) (hc : nxB (s[k]'hk) = false) (h : n = k + ((s.data.toList.drop k).takeWhile nxB).length) : n = k := by
  rw [drop_head s k hk, List.takeWhile_cons, if_neg (by rw [hc]; decide)] at h
  simpa using h
theorem nl_end {s : ByteArray} {k n : Nat} (hk : s.size ≤ k) (h : n = k + ((s.data.toList.drop k).takeWhile nxB).length) : n = k := by
  rw [List.drop_eq_nil_of_le (by rw [← Lib.size_eq]; exact hk)] at h
  simpa using h
theorem name_out {t : Row} {k : Nat} (h : nlen t = k) : Hid ((64 < k → nameN t = 0) ∧ (¬ 64 < k → nameN t = k)) := Lib.hid (by
  unfold nameN
  rw [h]
  exact ⟨fun q => if_pos q, fun q => if_neg q⟩)
theorem ret_nat {a b : Nat} (h : a = b) : Ending.returned (.int .i64 (a : Int)) = .returned (.int .i64 (b : Int)) := by rw [h]

set_option maxHeartbeats 2000000 in
set_option maxRecDepth 100000 in
theorem refName_any (s : ByteArray) (w : World) (hs : s.size ≤ 140737488355328) : Calls Tryz.prog 15 #[.string s, .int .i64 0] w fun e w' => e = .returned (.int .i64 (nameN s.data.toList : Int)) ∧ w' = w := by
  by_cases h0 : 0 < s.size
  · obtain ⟨c, hc⟩ : ∃ c, s[0]'h0 = c := ⟨_, rfl⟩
    have cF := fun W => refFirst_any c W
    have hne : ¬ s = ByteArray.empty := fun e => by rw [e] at h0; exact absurd h0 (by decide)
    cases hf : ftB c with
    | false =>
      have hn : nameN s.data.toList = 0 := by unfold nameN; rw [nl_no h0 (by rw [hc]; exact hf)]; rfl
      rw [hn]
      rw [hf] at cF
      clear hn hf
      go_enter Tryz.func15, Tryz.ntmps15
      go_wp2_with fail
      go_at_call 30
      with_reducible refine (cF _).mono ?_
      rintro e w3 ⟨rfl, rfl⟩
      go_wp2
      go_ret
      exact ⟨rfl, rfl⟩
    | true =>
      have hst := Lib.hid (nl_start h0 (by rw [hc]; exact hf))
      rw [hf] at cF
      clear hf
      obtain ⟨N, hN⟩ : ∃ N, nlen s.data.toList = N := ⟨_, rfl⟩
      rw [hN] at hst
      have hN' := Lib.hid hN
      clear hN
      go_enter Tryz.func15, Tryz.ntmps15
      go_wp2_with fail
      go_at_call 30
      with_reducible refine (cF _).mono ?_
      rintro e w3 ⟨rfl, rfl⟩
      clear cF hc
      go_wp2
      go_loopw [5] (fun s5 wr => ∃ k : Nat, s5 = .int .i64 (k : Int) ∧ 1 ≤ k ∧ k ≤ s.size ∧ N = k + ((s.data.toList.drop k).takeWhile nxB).length ∧ wr = w3) (fun s5 wr => s.size - (RowKit.intOf s5).toNat)
      case atStart => exact ⟨1, rfl, Nat.le_refl _, h0, hst.out, rfl⟩
      case round =>
        obtain ⟨k, rfl, hk1, hk, hall, rfl⟩ := hrel
        by_cases hlt : k < s.size
        · have hg1 : decide ((k : Int) < (s.size : Int)) = true := decide_eq_true (by omega)
          have hst2 := nl_step (n := N) hlt
          have hsp2 := nl_stop (n := N) hlt
          obtain ⟨c, hc⟩ : ∃ c, s[k]'hlt = c := ⟨_, rfl⟩
          rw [hc] at hst2 hsp2
          have cF := fun W => refFirst_any c W
          cases hf : ftB c with
          | true =>
            have hn := Lib.hid (hst2 (ft_nx hf) hall)
            rw [hf] at cF
            clear hst2 hsp2 hf hall
            go_wp2_with fail
            go_at_call 30
            with_reducible refine (cF _).mono ?_
            rintro e w4 ⟨rfl, rfl⟩
            go_wp2
            go_roundw
            case rel => exact ⟨k + 1, by go_num, by omega, by omega, hn.out, trivial⟩
            case measure => simp [RowKit.intOf]; omega
          | false =>
            have H := nx_of c c.toNat rfl hf
            rw [hf] at cF
            cases hx : nxB c with
            | true =>
              have hn := Lib.hid (hst2 hx hall)
              have hv : Hid (¬ ((48 ≤ c.toNat ∧ c.toNat ≤ 57) ∨ c.toNat = 45 ∨ c.toNat = 46) → False) := Lib.hid fun q => by
                have := H.out false (by simp only [Bool.false_eq_true, false_iff]; exact q)
                rw [hx] at this; cases this
              clear hst2 hsp2 hf hall H hx
              go_wp2_with fail
              go_at_call 30
              with_reducible refine (cF _).mono ?_
              rintro e w4 ⟨rfl, rfl⟩
              clear cF
              go_wp2
              all_goals
                first
                  | (exfalso; exact hv.out (by first | omega | (simp only [beq_eq_false_iff_ne, ne_eq, beq_iff_eq] at *; omega)))
                  | (go_roundw
                     case rel => exact ⟨k + 1, by go_num, by omega, by omega, hn.out, trivial⟩
                     case measure => simp [RowKit.intOf]; omega)
            | false =>
              have hk2 : N = k := hsp2 hx hall
              have hv : Hid (((48 ≤ c.toNat ∧ c.toNat ≤ 57) ∨ c.toNat = 45 ∨ c.toNat = 46) → False) := Lib.hid fun q => by
                have := H.out true (by simp only [true_iff]; exact q)
                rw [hx] at this; cases this
              subst hk2
              have ho := name_out hN'.out
              clear hst2 hsp2 hf hall H hx
              go_wp2_with fail
              go_at_call 30
              with_reducible refine (cF _).mono ?_
              rintro e w4 ⟨rfl, rfl⟩
              clear cF
              go_wp2
              all_goals
                first
                  | (exfalso; exact hv.out (by first | omega | (simp only [beq_eq_false_iff_ne, ne_eq, beq_iff_eq] at *; omega)))
                  | (go_ret; exact ⟨by first | (rw [ho.out.1 (by omega)]; rfl) | (rw [ho.out.2 (by omega)]; rfl), rfl⟩)
        · have hk2 : N = k := nl_end (by omega) hall
          subst hk2
          have ho := name_out hN'.out
          clear hall
          go_wp2
          all_goals
            go_ret
            exact ⟨by first | (rw [ho.out.1 (by omega)]; rfl) | (rw [ho.out.2 (by omega)]; rfl), rfl⟩
  · have hn : nameN s.data.toList = 0 := by
      have : s.data.toList = [] := List.eq_nil_of_length_eq_zero (by rw [← Lib.size_eq]; omega)
      rw [this]; rfl
    rw [hn]
    clear hn
    have hne : s = ByteArray.empty := by
      obtain ⟨d⟩ := s
      have : d = #[] := Array.eq_empty_of_size_eq_zero (by simp only [ByteArray.size] at h0; omega)
      rw [this]; rfl
    subst hne
    go_enter Tryz.func15, Tryz.ntmps15
    go_wp2
    go_ret
    exact ⟨rfl, rfl⟩
end Go.Proofs.YtjeagjleolmibaaGreatDoor.Xm

/-
  WALKS OF THE PROGRAM's LAYER xml: begins, goesOn, nameEnd, isName.
-/
set_option linter.unusedVariables false
namespace Go.Proofs.YtjeagjleolmibaaGreatDoor.Xm
open Go.Lib Go.RowKit

set_option maxHeartbeats 2000000 in
set_option maxRecDepth 100000 in
theorem begins_any (b : UInt8) (w : World) : Calls Tryz.prog 46 #[.int .u8 (b.toNat : Int)] w fun e w' => e = .returned (.bool (ftB b)) ∧ w' = w := by
  have H := ft_of b b.toNat rfl
  generalize ftB b = R at H ⊢
  generalize b.toNat = v at H ⊢
  go_enter Tryz.func46, Tryz.ntmps46
  go_wp2
  all_goals
    go_ret
    exact ⟨ret_bool (H.out _ (by first | omega | (simp; omega))), rfl⟩
def goB (c : UInt8) : Bool := decide (48 ≤ c.toNat ∧ c.toNat ≤ 57 ∨ c.toNat = 45 ∨ c.toNat = 46)
theorem nx_go (c : UInt8) : nxB c = (ftB c || goB c) := rfl
theorem go_of (b : UInt8) (v : Nat) (h : b.toNat = v) : Hid (∀ r : Bool, (r = true ↔ ((48 ≤ v ∧ v ≤ 57) ∨ v = 45 ∨ v = 46)) → r = goB b) := Lib.hid fun r hr => by
  unfold goB
  rw [h, Bool.eq_iff_iff, hr, decide_eq_true_iff]
set_option maxHeartbeats 2000000 in
set_option maxRecDepth 100000 in
theorem goesOn_any (b : UInt8) (w : World) : Calls Tryz.prog 63 #[.int .u8 (b.toNat : Int)] w fun e w' => e = .returned (.bool (goB b)) ∧ w' = w := by
  have H := go_of b b.toNat rfl
  generalize goB b = R at H ⊢
  generalize b.toNat = v at H ⊢
  go_enter Tryz.func63, Tryz.ntmps63
  go_wp2
  all_goals
    go_ret
    exact ⟨ret_bool (H.out _ (by first | omega | (simp; omega))), rfl⟩

def nEnd (t : Row) : Nat := (t.takeWhile nxB).length
theorem nEnd_le (t : Row) : nEnd t ≤ t.length := (List.takeWhile_sublist nxB).length_le
set_option maxHeartbeats 2000000 in
set_option maxRecDepth 100000 in
theorem nameEnd_any (s : ByteArray) (w : World) (hs : s.size ≤ 9223372036854775807) : Calls Tryz.prog 47 #[.string s] w fun e w' => e = .returned (.int .i64 (nEnd s.data.toList : Int)) ∧ w' = w := by
  unfold nEnd
  obtain ⟨N, hN⟩ : ∃ N, (s.data.toList.takeWhile nxB).length = N := ⟨_, rfl⟩
  rw [hN]
  have h0 : Hid (N = 0 + ((s.data.toList.drop 0).takeWhile nxB).length) := Lib.hid (by rw [List.drop_zero]; omega)
  clear hN
  go_enter Tryz.func47, Tryz.ntmps47
  go_wp2
  go_loopw [3] (fun s5 wr => ∃ k : Nat, s5 = .int .i64 (k : Int) ∧ k ≤ s.size ∧ N = k + ((s.data.toList.drop k).takeWhile nxB).length ∧ wr = w) (fun s5 wr => s.size - (RowKit.intOf s5).toNat)
  case atStart => exact ⟨0, rfl, Nat.zero_le _, h0.out, rfl⟩
  case round =>
    obtain ⟨k, rfl, hk, hall, rfl⟩ := hrel
    by_cases hlt : k < s.size
    · have hst2 := nl_step (n := N) hlt
      have hsp2 := nl_stop (n := N) hlt
      obtain ⟨c, hc⟩ : ∃ c, s[k]'hlt = c := ⟨_, rfl⟩
      rw [hc] at hst2 hsp2
      have cF := begins_any c wr
      have cG := goesOn_any c wr
      cases hf : ftB c with
      | true =>
        have hn := Lib.hid (hst2 (ft_nx hf) hall)
        rw [hf] at cF
        clear hst2 hsp2 hf hall cG
        go_wp2_with fail
        go_at_call 46
        with_reducible refine cF.mono ?_
        rintro e w4 ⟨rfl, rfl⟩
        go_wp2
        go_roundw
        case rel => exact ⟨k + 1, by go_num, by omega, hn.out, trivial⟩
        case measure => simp [RowKit.intOf]; omega
      | false =>
        rw [hf] at cF
        cases hx : goB c with
        | true =>
          have hn := Lib.hid (hst2 (by rw [nx_go, hx, Bool.or_true]) hall)
          rw [hx] at cG
          clear hst2 hsp2 hf hall hx
          go_wp2_with fail
          go_at_call 46
          with_reducible refine cF.mono ?_
          rintro e w4 ⟨rfl, rfl⟩
          go_wp2_with fail
          go_at_call 63
          with_reducible refine cG.mono ?_
          rintro e w4 ⟨rfl, rfl⟩
          go_wp2
          go_roundw
          case rel => exact ⟨k + 1, by go_num, by omega, hn.out, trivial⟩
          case measure => simp [RowKit.intOf]; omega
        | false =>
          have hn : N = k := hsp2 (by rw [nx_go, hf, hx]; rfl) hall
          rw [hx] at cG
          subst hn
          clear hst2 hsp2 hf hall hx
          go_wp2_with fail
          go_at_call 46
          with_reducible refine cF.mono ?_
          rintro e w4 ⟨rfl, rfl⟩
          go_wp2_with fail
          go_at_call 63
          with_reducible refine cG.mono ?_
          rintro e w4 ⟨rfl, rfl⟩
          go_wp2
          go_ret
          exact ⟨rfl, rfl⟩
    · have hn : N = k := nl_end (by omega) hall
      have hk2 : k = s.size := by omega
      subst hn
      clear hall
      go_wp2
      go_ret
      exact ⟨by rw [hk2]; rfl, rfl⟩

theorem nameB_parts (c : UInt8) (r : Row) : nameB (c :: r) = (decide ((c :: r).length ≤ 64) && (ftB c && decide (nEnd (c :: r) = (c :: r).length))) := by
  show (ftB c && r.all nxB && decide (r.length < 64)) = _
  cases hf : ftB c with
  | false => simp
  | true =>
    have e1 : (decide (r.length < 64)) = decide ((c :: r).length ≤ 64) := by
      rw [List.length_cons]; exact decide_eq_decide.2 (by omega)
    have e2 : r.all nxB = decide (nEnd (c :: r) = (c :: r).length) := by
      unfold nEnd
      rw [List.takeWhile_cons, if_pos (ft_nx hf), List.length_cons, List.length_cons, Bool.eq_iff_iff, decide_eq_true_iff]
      constructor
      · intro h
        have := takeWhile_front r [] h (fun x hx => by cases hx)
        rw [List.append_nil] at this
        rw [this]
      · intro h
        have e : r.takeWhile nxB = r := (List.takeWhile_sublist nxB).eq_of_length (by omega)
        have := List.all_takeWhile (p := nxB) (l := r)
        rwa [e] at this
    rw [e1, e2, Bool.true_and]
    exact Bool.and_comm _ _
set_option maxHeartbeats 2000000 in
set_option maxRecDepth 100000 in
theorem isName_any (s : ByteArray) (w : World) (hs : s.size ≤ 9223372036854775807) : Calls Tryz.prog 32 #[.string s] w fun e w' => e = .returned (.bool (nameB s.data.toList)) ∧ w' = w := by
  obtain ⟨R, hR⟩ : ∃ R, nameB s.data.toList = R := ⟨_, rfl⟩
  rw [hR]
  by_cases h0 : 0 < s.size
  · obtain ⟨c, hc⟩ : ∃ c, s[0]'h0 = c := ⟨_, rfl⟩
    have hcons : s.data.toList = c :: s.data.toList.drop 1 := by
      have := drop_head s 0 h0
      rw [List.drop_zero, hc] at this
      exact this
    have hR2 : (decide (s.size ≤ 64) && (ftB c && decide (nEnd s.data.toList = s.size))) = R := by
      have := nameB_parts c (s.data.toList.drop 1)
      rw [← hcons, hR, ← Lib.size_eq] at this
      exact this.symm
    have hne : ¬ s = ByteArray.empty := fun e => by rw [e] at h0; exact absurd h0 (by decide)
    have hnl : ¬ s.toList = [] := by rw [Lib.toList_data, hcons]; simp
    have hie : Hid (s.toList.isEmpty = false) := Lib.hid (by rw [Lib.toList_data, hcons]; rfl)
    have cF := begins_any c w
    have cN := nameEnd_any s w hs
    obtain ⟨N, hN⟩ : ∃ N, nEnd s.data.toList = N := ⟨_, rfl⟩
    rw [hN] at cN hR2
    clear hcons hR hN
    by_cases h64 : s.size ≤ 64
    · rw [decide_eq_true h64, Bool.true_and] at hR2
      cases hf : ftB c with
      | false =>
        rw [hf, Bool.false_and] at hR2
        subst hR2
        rw [hf] at cF
        clear hf cN
        go_enter Tryz.func32, Tryz.ntmps32
        go_wp2_with fail
        go_at_call 46
        with_reducible refine cF.mono ?_
        rintro e w4 ⟨rfl, rfl⟩
        go_wp2
        go_ret
        exact ⟨rfl, rfl⟩
      | true =>
        rw [hf, Bool.true_and] at hR2
        rw [hf] at cF
        have hR3 := Lib.hid hR2
        clear hf hR2
        go_enter Tryz.func32, Tryz.ntmps32
        go_wp2_with fail
        go_at_call 46
        with_reducible refine cF.mono ?_
        rintro e w4 ⟨rfl, rfl⟩
        go_wp2_with fail
        go_at_call 47
        with_reducible refine cN.mono ?_
        rintro e w4 ⟨rfl, rfl⟩
        go_wp2
        go_ret
        refine ⟨ret_bool ?_, rfl⟩
        rw [← hR3.out, Bool.eq_iff_iff]
        simp only [Bool.and_eq_true, decide_eq_true_eq, beq_iff_eq, Bool.not_eq_eq_eq_not, hie.out]
        constructor
        · rintro ⟨_, h⟩; omega
        · intro h; exact ⟨rfl, by omega⟩
    · rw [decide_eq_false h64, Bool.false_and] at hR2
      subst hR2
      clear cF cN
      go_enter Tryz.func32, Tryz.ntmps32
      go_wp2
      go_ret
      exact ⟨rfl, rfl⟩
  · have hnil : s.data.toList = [] := List.eq_nil_of_length_eq_zero (by rw [← Lib.size_eq]; omega)
    have hRf : R = false := by rw [← hR, hnil]; rfl
    have hnl : s.toList = [] := by rw [Lib.toList_data, hnil]
    subst hRf
    clear hR hnil
    go_enter Tryz.func32, Tryz.ntmps32
    go_wp2
    go_ret
    exact ⟨rfl, rfl⟩
end Go.Proofs.YtjeagjleolmibaaGreatDoor.Xm
