/-
  THE WALKS OF THE REFERENCE's Rune AND Valid.
-/
import Derived.Test.YtolnlhpaaomplaaDoorCharValid
set_option linter.unusedVariables false
namespace Go.Proofs.YtolnlhpaaomplaaDoor.Ch
open Go.Lib Go.RowKit

def runeE (p : Nat × Nat) : Ending := .returned (.tuple #[.int .i64 (p.1 : Int), .int .i64 (p.2 : Int)])
/-- byte j, nought behind the end -/
def at' (s : ByteArray) (j : Nat) : Nat := (s.data.toList.getD j 0).toNat
theorem at_get (s : ByteArray) (j : Nat) (h : j < s.size) : ((s[j]'h).toNat : Int) = (at' s j : Int) := by
  unfold at'
  have hl : j < s.data.toList.length := by rw [← Lib.size_eq]; exact h
  rw [List.getD_eq_getElem?_getD, List.getElem?_eq_getElem hl]
  rfl
theorem at_lt (s : ByteArray) (j : Nat) : at' s j < 256 := (s.data.toList.getD j 0).toNat_lt

/-- The rounds for a character of two bytes: where the place is, what has been gathered. -/
def Rel2 (b0 b1 : Nat) (b i : Value) : Prop := (i = .int .i64 1 ∧ b = .int .i64 ((b0 : Int) - 192)) ∨ (i = .int .i64 2 ∧ b = .int .i64 (64 * ((b0 : Int) - 192) + b1 - 128) ∧ cont b1)

set_option maxHeartbeats 2000000 in
set_option maxRecDepth 100000 in
theorem rune_two (s : ByteArray) (w : World) (hs : s.size ≤ 9223372036854775807) (h0 : 0 < s.size) (h1 : 192 ≤ at' s 0) (h2 : at' s 0 < 224) :
    Calls Tryd.prog 28 #[.string s] w fun e w' => e = runeE (runeN s.size (at' s 0) (at' s 1) (at' s 2) (at' s 3)) ∧ w = w' := by
  have g0 := at_get s 0 h0
  have gl1 := at_lt s 1
  obtain ⟨b0, hb0⟩ : ∃ b, at' s 0 = b := ⟨_, rfl⟩
  obtain ⟨b1, hb1⟩ : ∃ b, at' s 1 = b := ⟨_, rfl⟩
  rw [hb0] at g0 h1 h2 ⊢
  rw [hb1] at gl1 ⊢
  obtain ⟨R, hR⟩ : ∃ R, runeN s.size b0 b1 (at' s 2) (at' s 3) = R := ⟨_, rfl⟩
  have hcase := runeN_two s.size b0 b1 (at' s 2) (at' s 3) h1 h2
  rw [hR] at hcase ⊢
  have hb1' := Lib.hid hb1
  have hcase' := Lib.hid hcase
  clear hR hb0 hb1 hcase
  by_cases hz : s.size < 2
  · have hR0 : R = (0, 0) := by
      rcases hcase'.out with h | h
      · omega
      · exact h.2
    have hR0' := Lib.hid hR0
    clear hR0
    go_enter Tryd.func28, Tryd.ntmps28
    go_wp2
    go_ret2
    exact ⟨by rw [hR0'.out]; rfl, rfl⟩
  · have g1 := at_get s 1 (by omega)
    rw [hb1'.out] at g1
    go_enter Tryd.func28, Tryd.ntmps28
    go_wp2
    go_loop [4, 7] (fun b i => Rel2 b0 b1 b i) (fun _ i => 2 - (RowKit.intOf i).toNat)
    case atStart => exact .inl ⟨rfl, rfl⟩
    case round =>
      rcases hrel with ⟨rfl, rfl⟩ | ⟨rfl, rfl, hc⟩
      · by_cases hc : cont b1
        · obtain ⟨c1, c2⟩ := hc
          go_wp2
          go_round
          case rel => exact ⟨_, _, _, _, .inr ⟨rfl, rfl, c1, c2⟩, rfl, rfl, rfl, rfl⟩
          case measure => decide
        · have hR0 : R = (0, 0) := by
            rcases hcase'.out with h | h
            · exact absurd h.2.1 hc
            · exact h.2
          have hR0' := Lib.hid hR0
          have hc' : b1 < 128 ∨ 191 < b1 := by unfold cont at hc; omega
          clear hR0 hc
          rcases hc' with hc' | hc'
          all_goals
            go_wp2
            go_ret2
            exact ⟨by rw [hR0'.out]; rfl, rfl⟩
      · have hv : (64 * ((b0 : Int) - 192) + b1 - 128) = (v2 b0 b1 : Int) := by unfold v2; have := hc.1; omega
        rw [hv]
        obtain ⟨v, hv2⟩ : ∃ v, v2 b0 b1 = v := ⟨_, rfl⟩
        have hcase2 := hcase'.out
        rw [hv2] at hcase2 ⊢
        clear hv hv2 hcase'
        rcases hcase2 with ⟨_, _, h3, h4, h5⟩ | ⟨h3, h5⟩
        · have h5' := Lib.hid h5
          clear h5
          go_wp2
          go_ret2
          exact ⟨by rw [h5'.out]; rfl, rfl⟩
        · have h4 : v < 128 := by
            rcases Nat.lt_or_ge v 128 with h | h
            · exact h
            · exact absurd ⟨by omega, hc, h⟩ h3
          have h5' := Lib.hid h5
          clear h5 h3
          go_wp2
          go_ret2
          exact ⟨by rw [h5'.out]; rfl, rfl⟩

/-- Three bytes. -/
def Rel3 (b0 b1 b2 : Nat) (b i : Value) : Prop := (i = .int .i64 1 ∧ b = .int .i64 ((b0 : Int) - 224)) ∨ (i = .int .i64 2 ∧ b = .int .i64 (64 * ((b0 : Int) - 224) + b1 - 128) ∧ cont b1) ∨
  (i = .int .i64 3 ∧ b = .int .i64 (64 * (64 * ((b0 : Int) - 224) + b1 - 128) + b2 - 128) ∧ cont b1 ∧ cont b2)

set_option maxHeartbeats 4000000 in
set_option maxRecDepth 100000 in
theorem rune_three (s : ByteArray) (w : World) (hs : s.size ≤ 9223372036854775807) (h0 : 0 < s.size) (h1 : 224 ≤ at' s 0) (h2 : at' s 0 < 240) :
    Calls Tryd.prog 28 #[.string s] w fun e w' => e = runeE (runeN s.size (at' s 0) (at' s 1) (at' s 2) (at' s 3)) ∧ w = w' := by
  have g0 := at_get s 0 h0
  have gl1 := at_lt s 1
  have gl2 := at_lt s 2
  obtain ⟨b0, hb0⟩ : ∃ b, at' s 0 = b := ⟨_, rfl⟩
  obtain ⟨b1, hb1⟩ : ∃ b, at' s 1 = b := ⟨_, rfl⟩
  obtain ⟨b2, hb2⟩ : ∃ b, at' s 2 = b := ⟨_, rfl⟩
  rw [hb0] at g0 h1 h2 ⊢
  rw [hb1] at gl1 ⊢
  rw [hb2] at gl2 ⊢
  obtain ⟨R, hR⟩ : ∃ R, runeN s.size b0 b1 b2 (at' s 3) = R := ⟨_, rfl⟩
  have hcase := runeN_three s.size b0 b1 b2 (at' s 3) h1 h2
  rw [hR] at hcase ⊢
  have hb1' := Lib.hid hb1
  have hb2' := Lib.hid hb2
  have hcase' := Lib.hid hcase
  clear hR hb0 hb1 hb2 hcase
  by_cases hz : s.size < 3
  · have hR0 : R = (0, 0) := by
      rcases hcase'.out with h | h
      · omega
      · exact h.2
    have hR0' := Lib.hid hR0
    clear hR0
    go_enter Tryd.func28, Tryd.ntmps28
    go_wp2
    go_ret2
    exact ⟨by rw [hR0'.out]; rfl, rfl⟩
  · have g1 := at_get s 1 (by omega)
    have g2 := at_get s 2 (by omega)
    rw [hb1'.out] at g1
    rw [hb2'.out] at g2
    go_enter Tryd.func28, Tryd.ntmps28
    go_wp2
    go_loop [4, 7] (fun b i => Rel3 b0 b1 b2 b i) (fun _ i => 3 - (RowKit.intOf i).toNat)
    case atStart => exact .inl ⟨rfl, rfl⟩
    case round =>
      rcases hrel with ⟨rfl, rfl⟩ | ⟨rfl, rfl, hc⟩ | ⟨rfl, rfl, hc1, hc2⟩
      · by_cases hc : cont b1
        · obtain ⟨c1, c2⟩ := hc
          go_wp2
          go_round
          case rel => exact ⟨_, _, _, _, .inr (.inl ⟨rfl, rfl, c1, c2⟩), rfl, rfl, rfl, rfl⟩
          case measure => decide
        · have hR0 : R = (0, 0) := by
            rcases hcase'.out with h | h
            · exact absurd h.2.1 hc
            · exact h.2
          have hR0' := Lib.hid hR0
          have hc' : b1 < 128 ∨ 191 < b1 := by unfold cont at hc; omega
          clear hR0 hc
          rcases hc' with hc' | hc'
          all_goals
            go_wp2
            go_ret2
            exact ⟨by rw [hR0'.out]; rfl, rfl⟩
      · obtain ⟨c1, c2⟩ := hc
        by_cases hd : cont b2
        · obtain ⟨d1, d2⟩ := hd
          go_wp2
          go_round
          case rel => exact ⟨_, _, _, _, .inr (.inr ⟨rfl, rfl, ⟨c1, c2⟩, d1, d2⟩), rfl, rfl, rfl, rfl⟩
          case measure => decide
        · have hR0 : R = (0, 0) := by
            rcases hcase'.out with h | h
            · exact absurd h.2.2.1 hd
            · exact h.2
          have hR0' := Lib.hid hR0
          have hc' : b2 < 128 ∨ 191 < b2 := by unfold cont at hd; omega
          clear hR0 hd
          rcases hc' with hc' | hc'
          all_goals
            go_wp2
            go_ret2
            exact ⟨by rw [hR0'.out]; rfl, rfl⟩
      · have hv : (64 * (64 * ((b0 : Int) - 224) + b1 - 128) + b2 - 128) = (v3 b0 b1 b2 : Int) := by unfold v3; have := hc1.1; have := hc2.1; omega
        have hvb : v3 b0 b1 b2 ≤ 65535 := by unfold v3; have := hc1.2; have := hc2.2; omega
        rw [hv]
        obtain ⟨v, hv2⟩ : ∃ v, v3 b0 b1 b2 = v := ⟨_, rfl⟩
        have hcase2 := hcase'.out
        rw [hv2] at hcase2 hvb ⊢
        clear hv hv2 hcase'
        rcases hcase2 with ⟨_, _, _, h3, h4, h6, h5⟩ | ⟨h3, h5⟩
        · have h5' := Lib.hid h5
          have h7 : v < 55296 ∨ 57343 < v := by omega
          clear h5 h6
          rcases h7 with h7 | h7
          all_goals
            go_wp2
            go_ret2
            exact ⟨by rw [h5'.out]; rfl, rfl⟩
        · have h4 : v < 2048 ∨ (55296 ≤ v ∧ v ≤ 57343) := by
            rcases Nat.lt_or_ge v 2048 with h | h
            · exact .inl h
            · right
              by_cases h6 : 55296 ≤ v ∧ v ≤ 57343
              · exact h6
              · exact absurd ⟨by omega, hc1, hc2, h, h6⟩ h3
          have h5' := Lib.hid h5
          clear h5 h3
          rcases h4 with h4 | ⟨h4, h6⟩
          all_goals
            go_wp2
            go_ret2
            exact ⟨by rw [h5'.out]; rfl, rfl⟩

/-- Four bytes. -/
def Rel4 (b0 b1 b2 b3 : Nat) (b i : Value) : Prop := (i = .int .i64 1 ∧ b = .int .i64 ((b0 : Int) - 240)) ∨ (i = .int .i64 2 ∧ b = .int .i64 (64 * ((b0 : Int) - 240) + b1 - 128) ∧ cont b1) ∨
  (i = .int .i64 3 ∧ b = .int .i64 (64 * (64 * ((b0 : Int) - 240) + b1 - 128) + b2 - 128) ∧ cont b1 ∧ cont b2) ∨
  (i = .int .i64 4 ∧ b = .int .i64 (64 * (64 * (64 * ((b0 : Int) - 240) + b1 - 128) + b2 - 128) + b3 - 128) ∧ cont b1 ∧ cont b2 ∧ cont b3)

set_option maxHeartbeats 4000000 in
set_option maxRecDepth 100000 in
theorem rune_four (s : ByteArray) (w : World) (hs : s.size ≤ 9223372036854775807) (h0 : 0 < s.size) (h1 : 240 ≤ at' s 0) (h2 : at' s 0 < 248) :
    Calls Tryd.prog 28 #[.string s] w fun e w' => e = runeE (runeN s.size (at' s 0) (at' s 1) (at' s 2) (at' s 3)) ∧ w = w' := by
  have g0 := at_get s 0 h0
  have gl1 := at_lt s 1
  have gl2 := at_lt s 2
  have gl3 := at_lt s 3
  obtain ⟨b0, hb0⟩ : ∃ b, at' s 0 = b := ⟨_, rfl⟩
  obtain ⟨b1, hb1⟩ : ∃ b, at' s 1 = b := ⟨_, rfl⟩
  obtain ⟨b2, hb2⟩ : ∃ b, at' s 2 = b := ⟨_, rfl⟩
  obtain ⟨b3, hb3⟩ : ∃ b, at' s 3 = b := ⟨_, rfl⟩
  rw [hb0] at g0 h1 h2 ⊢
  rw [hb1] at gl1 ⊢
  rw [hb2] at gl2 ⊢
  rw [hb3] at gl3 ⊢
  obtain ⟨R, hR⟩ : ∃ R, runeN s.size b0 b1 b2 b3 = R := ⟨_, rfl⟩
  have hcase := runeN_four s.size b0 b1 b2 b3 h1 h2
  rw [hR] at hcase ⊢
  have hb1' := Lib.hid hb1
  have hb2' := Lib.hid hb2
  have hb3' := Lib.hid hb3
  have hcase' := Lib.hid hcase
  clear hR hb0 hb1 hb2 hb3 hcase
  by_cases hz : s.size < 4
  · have hR0 : R = (0, 0) := by
      rcases hcase'.out with h | h
      · omega
      · exact h.2
    have hR0' := Lib.hid hR0
    clear hR0
    go_enter Tryd.func28, Tryd.ntmps28
    go_wp2
    go_ret2
    exact ⟨by rw [hR0'.out]; rfl, rfl⟩
  · have g1 := at_get s 1 (by omega)
    have g2 := at_get s 2 (by omega)
    have g3 := at_get s 3 (by omega)
    rw [hb1'.out] at g1
    rw [hb2'.out] at g2
    rw [hb3'.out] at g3
    go_enter Tryd.func28, Tryd.ntmps28
    go_wp2
    go_loop [4, 7] (fun b i => Rel4 b0 b1 b2 b3 b i) (fun _ i => 4 - (RowKit.intOf i).toNat)
    case atStart => exact .inl ⟨rfl, rfl⟩
    case round =>
      rcases hrel with ⟨rfl, rfl⟩ | ⟨rfl, rfl, hc⟩ | ⟨rfl, rfl, hc1, hc2⟩ | ⟨rfl, rfl, hc1, hc2, hc3⟩
      · by_cases hc : cont b1
        · obtain ⟨c1, c2⟩ := hc
          go_wp2
          go_round
          case rel => exact ⟨_, _, _, _, .inr (.inl ⟨rfl, rfl, c1, c2⟩), rfl, rfl, rfl, rfl⟩
          case measure => decide
        · have hR0 : R = (0, 0) := by
            rcases hcase'.out with h | h
            · exact absurd h.2.1 hc
            · exact h.2
          have hR0' := Lib.hid hR0
          have hc' : b1 < 128 ∨ 191 < b1 := by unfold cont at hc; omega
          clear hR0 hc
          rcases hc' with hc' | hc'
          all_goals
            go_wp2
            go_ret2
            exact ⟨by rw [hR0'.out]; rfl, rfl⟩
      · obtain ⟨c1, c2⟩ := hc
        by_cases hd : cont b2
        · obtain ⟨d1, d2⟩ := hd
          go_wp2
          go_round
          case rel => exact ⟨_, _, _, _, .inr (.inr (.inl ⟨rfl, rfl, ⟨c1, c2⟩, d1, d2⟩)), rfl, rfl, rfl, rfl⟩
          case measure => decide
        · have hR0 : R = (0, 0) := by
            rcases hcase'.out with h | h
            · exact absurd h.2.2.1 hd
            · exact h.2
          have hR0' := Lib.hid hR0
          have hc' : b2 < 128 ∨ 191 < b2 := by unfold cont at hd; omega
          clear hR0 hd
          rcases hc' with hc' | hc'
          all_goals
            go_wp2
            go_ret2
            exact ⟨by rw [hR0'.out]; rfl, rfl⟩
      · obtain ⟨c1, c2⟩ := hc1
        obtain ⟨d1, d2⟩ := hc2
        by_cases hd : cont b3
        · obtain ⟨e1, e2⟩ := hd
          go_wp2
          go_round
          case rel => exact ⟨_, _, _, _, .inr (.inr (.inr ⟨rfl, rfl, ⟨c1, c2⟩, ⟨d1, d2⟩, e1, e2⟩)), rfl, rfl, rfl, rfl⟩
          case measure => decide
        · have hR0 : R = (0, 0) := by
            rcases hcase'.out with h | h
            · exact absurd h.2.2.2.1 hd
            · exact h.2
          have hR0' := Lib.hid hR0
          have hc' : b3 < 128 ∨ 191 < b3 := by unfold cont at hd; omega
          clear hR0 hd
          rcases hc' with hc' | hc'
          all_goals
            go_wp2
            go_ret2
            exact ⟨by rw [hR0'.out]; rfl, rfl⟩
      · have hv : (64 * (64 * (64 * ((b0 : Int) - 240) + b1 - 128) + b2 - 128) + b3 - 128) = (v4 b0 b1 b2 b3 : Int) := by unfold v4; have := hc1.1; have := hc2.1; have := hc3.1; omega
        have hvb : v4 b0 b1 b2 b3 ≤ 2097151 := by unfold v4; have := hc1.2; have := hc2.2; have := hc3.2; omega
        rw [hv]
        obtain ⟨v, hv2⟩ : ∃ v, v4 b0 b1 b2 b3 = v := ⟨_, rfl⟩
        have hcase2 := hcase'.out
        rw [hv2] at hcase2 hvb ⊢
        clear hv hv2 hcase'
        rcases hcase2 with ⟨_, _, _, _, h3, h4, h5⟩ | ⟨h3, h5⟩
        · have h5' := Lib.hid h5
          clear h5
          go_wp2
          go_ret2
          exact ⟨by rw [h5'.out]; rfl, rfl⟩
        · have h4 : v < 65536 ∨ 1114111 < v := by
            rcases Nat.lt_or_ge v 65536 with h | h
            · exact .inl h
            · right
              rcases Nat.lt_or_ge 1114111 v with h6 | h6
              · exact h6
              · exact absurd ⟨by omega, hc1, hc2, hc3, h, h6⟩ h3
          have h5' := Lib.hid h5
          clear h5 h3
          rcases h4 with h4 | h4
          all_goals
            go_wp2
            go_ret2
            exact ⟨by rw [h5'.out]; rfl, rfl⟩

set_option maxHeartbeats 2000000 in
set_option maxRecDepth 100000 in
theorem rune_any (s : ByteArray) (w : World) (hs : s.size ≤ 9223372036854775807) :
    Calls Tryd.prog 28 #[.string s] w fun e w' => e = runeE (rune s.data.toList) ∧ w = w' := by
  by_cases h0 : s.size = 0
  · have hn : s.data.toList = [] := List.eq_nil_of_length_eq_zero (by rw [← Lib.size_eq]; exact h0)
    rw [hn]
    have hz : ((s.size : Int) == 0) = true := by simp [h0]
    clear hn h0
    go_enter Tryd.func28, Tryd.ntmps28
    go_wp2
    go_ret2
    exact ⟨rfl, rfl⟩
  have hne : s.data.toList ≠ [] := fun h => h0 (by rw [Lib.size_eq, h]; rfl)
  rw [rune_eq _ hne, ← Lib.size_eq]
  have hp : 0 < s.size := by omega
  have hlt := at_lt s 0
  by_cases c1 : at' s 0 < 128
  · have hR := Lib.hid (runeN_one s.size (at' s 0) (at' s 1) (at' s 2) (at' s 3) c1)
    have g0 := at_get s 0 hp
    clear hne h0
    have hb : (s.data.toList.getD 0 0).toNat = at' s 0 := rfl
    have h1 : (s.data.toList.getD 1 0).toNat = at' s 1 := rfl
    have h2 : (s.data.toList.getD 2 0).toNat = at' s 2 := rfl
    have h3 : (s.data.toList.getD 3 0).toNat = at' s 3 := rfl
    rw [hb, h1, h2, h3, hR.out]
    obtain ⟨b0, hb0⟩ : ∃ b, at' s 0 = b := ⟨_, rfl⟩
    rw [hb0] at g0 c1 hlt ⊢
    clear hR hb h1 h2 h3 hb0
    go_enter Tryd.func28, Tryd.ntmps28
    go_wp2
    go_ret2
    exact ⟨rfl, rfl⟩
  by_cases c2 : at' s 0 < 192 ∨ 248 ≤ at' s 0
  · have hR := Lib.hid (runeN_none s.size (at' s 0) (at' s 1) (at' s 2) (at' s 3) (by omega))
    have g0 := at_get s 0 hp
    clear hne h0
    have hb : (s.data.toList.getD 0 0).toNat = at' s 0 := rfl
    have h1 : (s.data.toList.getD 1 0).toNat = at' s 1 := rfl
    have h2 : (s.data.toList.getD 2 0).toNat = at' s 2 := rfl
    have h3 : (s.data.toList.getD 3 0).toNat = at' s 3 := rfl
    rw [hb, h1, h2, h3, hR.out]
    obtain ⟨b0, hb0⟩ : ∃ b, at' s 0 = b := ⟨_, rfl⟩
    rw [hb0] at g0 c1 c2 hlt
    clear hR hb h1 h2 h3 hb0
    rcases c2 with c2 | c2
    all_goals
      go_enter Tryd.func28, Tryd.ntmps28
      go_wp2
      go_ret2
      exact ⟨rfl, rfl⟩
  by_cases c3 : at' s 0 < 224
  · exact rune_two s w hs hp (by omega) c3
  by_cases c4 : at' s 0 < 240
  · exact rune_three s w hs hp (by omega) c4
  · exact rune_four s w hs hp (by omega) (by omega)
end Go.Proofs.YtolnlhpaaomplaaDoor.Ch
