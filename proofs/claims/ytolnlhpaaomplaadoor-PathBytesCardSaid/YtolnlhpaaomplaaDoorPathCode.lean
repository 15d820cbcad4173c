/-
  WALKS OF path.plain, path.digit, path.escape, path.named.
-/
import Derived.Test.YtolnlhpaaomplaaDoorPathSpec
import Derived.Test.YtolnlhpaaomplaaDoorCharValid
set_option linter.unusedVariables false
namespace Go.Proofs.YtolnlhpaaomplaaDoor.Pa
open Go.Lib Go.RowKit

set_option maxHeartbeats 2000000 in
set_option maxRecDepth 100000 in
theorem bare_any (b : UInt8) (w : World) : Calls Tryd.prog 25 #[.int .u8 (b.toNat : Int)] w fun e w' => e = .returned (.bool (bare b)) ∧ w = w' := by
  have H := bare_of b b.toNat rfl
  generalize bare b = R at H ⊢
  generalize b.toNat = v at H ⊢
  go_enter Tryd.func25, Tryd.ntmps25
  go_wp2
  all_goals
    go_ret
    exact ⟨ret_bool (H.out _ (by first | omega | (simp; omega))), rfl⟩

def HexP (b : UInt8) (e : Ending) : Prop := (hexv b < 16 ∧ e = .returned (.tuple #[.int .u8 (hexv b : Int), .bool true])) ∨ (¬ hexv b < 16 ∧ ∃ x : UInt8, e = .returned (.tuple #[.int .u8 (x.toNat : Int), .bool false]))
set_option maxHeartbeats 2000000 in
set_option maxRecDepth 100000 in
theorem hex_any (b : UInt8) (w : World) : Calls Tryd.prog 38 #[.int .u8 (b.toNat : Int)] w fun e w' => HexP b e ∧ w = w' := by
  obtain ⟨R, hR⟩ : ∃ R, hexv b = R := ⟨_, rfl⟩
  have hlt := b.toNat_lt
  unfold HexP
  rw [hR]
  unfold hexv at hR
  generalize b.toNat = v at hR hlt ⊢
  by_cases c1 : 48 ≤ v ∧ v ≤ 57
  · rw [if_pos c1] at hR
    obtain ⟨c1, c2⟩ := c1
    go_enter Tryd.func38, Tryd.ntmps38
    go_wp2
    go_ret2
    refine ⟨.inl ⟨by omega, ?_⟩, rfl⟩
    show Ending.returned (.tuple #[.int .u8 ((v : Int) - 48), .bool true]) = _
    rw [show (v : Int) - 48 = (R : Int) by omega]
  · rw [if_neg c1] at hR
    by_cases c2 : 65 ≤ v ∧ v ≤ 70
    · rw [if_pos c2] at hR
      obtain ⟨c3, c4⟩ := c2
      clear c1
      go_enter Tryd.func38, Tryd.ntmps38
      go_wp2
      go_ret2
      refine ⟨.inl ⟨by omega, ?_⟩, rfl⟩
      show Ending.returned (.tuple #[.int .u8 ((v : Int) - 65 + 10), .bool true]) = _
      rw [show (v : Int) - 65 + 10 = (R : Int) by omega]
    · rw [if_neg c2] at hR
      by_cases c3 : 97 ≤ v ∧ v ≤ 102
      · rw [if_pos c3] at hR
        obtain ⟨c4, c5⟩ := c3
        clear c1 c2
        go_enter Tryd.func38, Tryd.ntmps38
        go_wp2
        go_ret2
        refine ⟨.inl ⟨by omega, ?_⟩, rfl⟩
        show Ending.returned (.tuple #[.int .u8 ((v : Int) - 97 + 10), .bool true]) = _
        rw [show (v : Int) - 97 + 10 = (R : Int) by omega]
      · rw [if_neg c3] at hR
        subst hR
        go_enter Tryd.func38, Tryd.ntmps38
        go_wp2
        all_goals
          first
            | (exfalso; omega)
            | (go_ret2; first | exact ⟨.inr ⟨by omega, 0, rfl⟩, rfl⟩ | exact ⟨⟨0, rfl⟩, rfl⟩)

theorem or_hex : ∀ a b : Fin 16, bits .or .u8 ((a.val : Int) * 16) (b.val : Int) = ((UInt8.ofNat (16 * a.val + b.val)).toNat : Int) := by decide +kernel
/-- what escape answers -/
def EscP (t : Row) (e : Ending) : Prop :=
  (∃ d f r, t = d :: f :: r ∧ hexv d < 16 ∧ hexv f < 16 ∧ e = .returned (.tuple #[.int .u8 ((UInt8.ofNat (16 * hexv d + hexv f)).toNat : Int), .bool true])) ∨
  ((∀ d f r, t = d :: f :: r → ¬ (hexv d < 16 ∧ hexv f < 16)) ∧ ∃ z : Int, e = .returned (.tuple #[.int .u8 z, .bool false]))
theorem two_of (s : ByteArray) (h : 2 ≤ s.size) : s.data.toList = s[0]'(by omega) :: s[1]'(by omega) :: s.data.toList.drop 2 := by
  have h0 := drop_head s 0 (by omega)
  have h1 := drop_head s 1 (by omega)
  rw [List.drop_zero] at h0
  conv => lhs; rw [h0, h1]
set_option maxHeartbeats 2000000 in
set_option maxRecDepth 100000 in
theorem escape_any (s : ByteArray) (w : World) : Calls Tryd.prog 31 #[.string s] w fun e w' => EscP s.data.toList e ∧ w = w' := by
  by_cases h2 : 2 ≤ s.size
  · have ht := two_of s h2
    obtain ⟨d, hd⟩ : ∃ d, s[0]'(by omega) = d := ⟨_, rfl⟩
    obtain ⟨f, hf⟩ : ∃ d, s[1]'(by omega) = d := ⟨_, rfl⟩
    rw [hd, hf] at ht
    have cd := hex_any d w
    have cf := hex_any f w
    have hg : ¬ (s.size : Int) < 2 := by omega
    have hlA : 0 < s.size := by omega
    have hlB : 1 < s.size := by omega
    have ht' := Lib.hid ht
    clear ht
    go_enter Tryd.func31, Tryd.ntmps31
    go_wp2_with fail
    go_at_call 38
    with_reducible refine cd.mono ?_
    rintro e w3 ⟨hp, rfl⟩
    rcases hp with ⟨q1, rfl⟩ | ⟨q1, x, rfl⟩
    · go_wp2_with fail
      go_at_call 38
      with_reducible refine cf.mono ?_
      rintro e w4 ⟨hp, rfl⟩
      rcases hp with ⟨q2, rfl⟩ | ⟨q2, x, rfl⟩
      · have hfin := Lib.hid (show EscP s.data.toList (.returned (.tuple #[.int .u8 ((UInt8.ofNat (16 * hexv d + hexv f)).toNat : Int), .bool true])) from .inl ⟨d, f, _, ht'.out, q1, q2, rfl⟩)
        obtain ⟨vd, hvd⟩ : ∃ v, hexv d = v := ⟨_, rfl⟩
        obtain ⟨vf, hvf⟩ : ∃ v, hexv f = v := ⟨_, rfl⟩
        rw [hvd] at q1 hfin ⊢
        rw [hvf] at q2 hfin ⊢
        have hor := or_hex ⟨vd, q1⟩ ⟨vf, q2⟩
        simp only at hor
        rw [← hor] at hfin
        clear cd cf hor hvd hvf hd hf
        go_wp2
        go_ret2
        exact ⟨hfin.out, rfl⟩
      · have hfin : Hid (∀ z : Int, EscP s.data.toList (.returned (.tuple #[.int .u8 z, .bool false]))) := Lib.hid fun z => .inr ⟨fun d' f' r e => by rw [ht'.out] at e; injection e with e1 e; injection e with e2 e; subst e1; subst e2; exact fun h => q2 h.2, z, rfl⟩
        obtain ⟨vd, hvd⟩ : ∃ v, hexv d = v := ⟨_, rfl⟩
        rw [hvd] at q1 ⊢
        clear cd cf q2 hvd hd hf
        go_wp2
        go_ret2
        exact ⟨hfin.out _, rfl⟩
    · have hfin : Hid (∀ z : Int, EscP s.data.toList (.returned (.tuple #[.int .u8 z, .bool false]))) := Lib.hid fun z => .inr ⟨fun d' f' r e => by rw [ht'.out] at e; injection e with e1 e; injection e with e2 e; subst e1; subst e2; exact fun h => q1 h.1, z, rfl⟩
      clear cd cf q1 hd hf
      go_wp2
      go_ret2
      exact ⟨hfin.out _, rfl⟩
  · have hfin : Hid (∀ z : Int, EscP s.data.toList (.returned (.tuple #[.int .u8 z, .bool false]))) := Lib.hid fun z => .inr ⟨fun d f r e => by
      have := congrArg List.length e
      rw [← Lib.size_eq, List.length_cons, List.length_cons] at this
      omega, z, rfl⟩
    go_enter Tryd.func31, Tryd.ntmps31
    go_wp2
    go_ret2
    exact ⟨hfin.out _, rfl⟩

theorem fits_all (s : ByteArray) : fits s.data.toList = (Ch.valid s.data.toList && (decide (0 < s.size ∧ s.size < 65) && decide (s.toList ≠ [46] ∧ s.toList ≠ [46, 46]))) := by
  unfold fits
  rw [Lib.toList_data, Lib.size_eq]
theorem fits_not {l : Row} (h : l = [] ∨ l = [46] ∨ l = [46, 46]) : fits l = false := by
  rcases h with rfl | rfl | rfl <;> decide +kernel
set_option maxHeartbeats 2000000 in
set_option maxRecDepth 100000 in
theorem fits_any (s : ByteArray) (w : World) (hs : s.size ≤ 9223372036854775807) (hT : Ch.Tabs w) :
    Calls Tryd.prog 16 #[.string s] w fun e w' => e = .returned (.bool (fits s.data.toList)) ∧ Below w.heap.size w w' := by
  have cV := Ch.valid_any s w hs hT
  clear hT
  have ft := fits_all s
  have fn := @fits_not s.data.toList
  rw [← Lib.toList_data] at fn
  obtain ⟨R, hR⟩ : ∃ R, fits s.data.toList = R := ⟨_, rfl⟩
  rw [Lib.toList_data] at fn
  rw [hR] at ft fn ⊢
  rw [← Lib.toList_data] at fn
  clear hR
  by_cases h0 : s.toList = []
  · have hr := Lib.hid (fn (.inl h0))
    have e0 : s.toList.isEmpty = true := by rw [h0]; rfl
    clear ft fn cV h0
    go_enter Tryd.func16, Tryd.ntmps16
    go_wp2
    all_goals
      go_ret
      exact ⟨by rw [hr.out]; rfl, Below.refl _ _⟩
  · have e0 : s.toList.isEmpty = false := by simpa using h0
    by_cases h1 : s.toList = [46]
    · have hr := Lib.hid (fn (.inr (.inl h1)))
      have e1 : (s.toList == [46]) = true := beq_iff_eq.2 h1
      clear ft fn cV h0
      go_enter Tryd.func16, Tryd.ntmps16
      go_wp2
      all_goals
        go_ret
        exact ⟨by rw [hr.out]; rfl, Below.refl _ _⟩
    · have e1 : (s.toList == [46]) = false := beq_eq_false_iff_ne.2 h1
      by_cases h2 : s.toList = [46, 46]
      · have hr := Lib.hid (fn (.inr (.inr h2)))
        have e2 : (s.toList == [46, 46]) = true := beq_iff_eq.2 h2
        clear ft fn cV h0
        go_enter Tryd.func16, Tryd.ntmps16
        go_wp2
        all_goals
          go_ret
          exact ⟨by rw [hr.out]; rfl, Below.refl _ _⟩
      · have e2 : (s.toList == [46, 46]) = false := beq_eq_false_iff_ne.2 h2
        have hp : 0 < s.size := by
          have : ¬ s.size = 0 := fun e => h0 (by rw [Lib.toList_data]; exact size_nil.1 e)
          omega
        have hr : Hid (R = (Ch.valid s.data.toList && decide (s.size < 65))) := Lib.hid (by
          rw [ft, show decide (s.toList ≠ [46] ∧ s.toList ≠ [46, 46]) = true from decide_eq_true ⟨h1, h2⟩, Bool.and_true]
          congr 1
          simp [hp])
        clear ft fn h0 hp
        by_cases h3 : s.size < 65
        · have g3 : (s.size : Int) ≤ 64 := by omega
          have hr' := hr.out
          rw [decide_eq_true h3, Bool.and_true] at hr'
          have hr2 := Lib.hid hr'
          clear hr hr'
          go_enter Tryd.func16, Tryd.ntmps16
          go_wp2_with fail
          go_at_call 24
          with_reducible refine cV.mono ?_
          rintro e w2 ⟨rfl, hb⟩
          have hb' := Lib.hid hb
          clear hb cV
          go_wp2
          go_ret
          exact ⟨ret_bool (by rw [hr2.out]; try simp), hb'.out⟩
        · have g3 : ¬ (s.size : Int) ≤ 64 := by omega
          have hr' := hr.out
          rw [decide_eq_false h3, Bool.and_false] at hr'
          have hr2 := Lib.hid hr'
          clear hr hr' cV
          go_enter Tryd.func16, Tryd.ntmps16
          go_wp2
          go_ret
          exact ⟨by rw [hr2.out]; rfl, Below.refl _ _⟩
end Go.Proofs.YtolnlhpaaomplaaDoor.Pa
