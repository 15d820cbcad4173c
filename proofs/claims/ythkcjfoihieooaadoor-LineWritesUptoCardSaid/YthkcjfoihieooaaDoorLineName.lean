/-
  WALKS OF line.inName, cutName, Name, the reference's in and Name.
-/
import Derived.Test.YthkcjfoihieooaaDoorShelf
import Derived.Test.YthkcjfoihieooaaDoorLinePlain
import Derived.LoopTactic
import Derived.Lib.Hide
import Derived.BigQuiet
import Derived.Deep.QuietTactic
import Derived.Lib.IndexLaws
import Derived.IntWalk
set_option linter.unusedVariables false
namespace Go.Proofs.YthkcjfoihieooaaDoor.Li
open Go.Lib Go.RowKit

theorem below_then {a b c : World} (h1 : Below a.heap.size a b) (h2 : Below b.heap.size b c) : Below a.heap.size a c := h1.trans (h2.mono h1.size)
theorem below_drewN {a w : World} (n : Nat) (h : Below a.heap.size a w) : Below a.heap.size a (w.drewN n) := ⟨h.os, h.tape, h.output, h.size, h.block⟩
theorem below_drew (w : World) (n : Nat) : Below w.heap.size w (w.drewN n) := below_drewN n (Below.refl _ _)
theorem ret_bool {a b : Bool} (h : a = b) : Ending.returned (.bool a) = .returned (.bool b) := by rw [h]

theorem inB_of (b : UInt8) (v : Nat) (h : b.toNat = v) : Hid (∀ r : Bool, (r = true ↔ ((97 ≤ v ∧ v ≤ 122) ∨ (65 ≤ v ∧ v ≤ 90) ∨ (48 ≤ v ∧ v ≤ 57) ∨ v = 45)) → r = inB b) := Lib.hid fun r hr => by
  unfold inB
  rw [h, Bool.eq_iff_iff, hr, decide_eq_true_iff]

set_option maxHeartbeats 1000000 in
set_option maxRecDepth 100000 in
theorem inName_any (b : UInt8) (w : World) : Calls Tryd.prog 49 #[.int .u8 (b.toNat : Int)] w fun e w' => e = .returned (.bool (inB b)) ∧ w = w' := by
  have H := inB_of b b.toNat rfl
  generalize inB b = R at H ⊢
  generalize b.toNat = v at H ⊢
  go_enter Tryd.func49, Tryd.ntmps49
  go_wp2
  all_goals
    go_ret
    exact ⟨ret_bool (H.out _ (by first | omega | (simp; omega))), rfl⟩
set_option maxHeartbeats 1000000 in
set_option maxRecDepth 100000 in
theorem refIn_any (b : UInt8) (w : World) : Calls Tryd.prog 31 #[.int .u8 (b.toNat : Int)] w fun e w' => e = .returned (.bool (inB b)) ∧ w = w' := by
  have H := inB_of b b.toNat rfl
  generalize inB b = R at H ⊢
  generalize b.toNat = v at H ⊢
  go_enter Tryd.func31, Tryd.ntmps31
  go_wp2
  all_goals
    go_ret
    exact ⟨ret_bool (H.out _ (by first | omega | (simp; omega))), rfl⟩

/-- what cutName answers -/
def CutNameP (t : Row) (e : Ending) : Prop :=
  (nameC t = none ∧ e = .returned (.tuple #[.string ⟨#[]⟩, .string ⟨#[]⟩, .bool false])) ∨
  ∃ n r : ByteArray, nameC t = some (n.data.toList, r.data.toList) ∧ e = .returned (.tuple #[.string n, .string r, .bool true])

theorem data_at (s : ByteArray) (k : Nat) (h : k < s.size) : s.data.toList.getD k 0 = s[k]'h := by
  rw [List.getD_eq_getElem?_getD, Lib.data_getElem? s k h]; rfl
theorem cutName_fin (s : ByteArray) (k : Nat) (hk : k ≤ s.size) (h1 : ∀ j, j < k → inB (s.data.toList.getD j 0) = true) (h2 : k < s.size → inB (s.data.toList.getD k 0) = false) :
    nlen s.data.toList = k := nlen_at _ _ (by rw [← Lib.size_eq]; exact hk) h1 (fun h => h2 (by rw [← Lib.size_eq] at h; exact h))

set_option maxHeartbeats 2000000 in
set_option maxRecDepth 100000 in
theorem cutName_any (s : ByteArray) (w : World) (hs : s.size ≤ 9223372036854775807) :
    Calls Tryd.prog 30 #[.string s] w fun e w' => CutNameP s.data.toList e ∧ Below w.heap.size w w' := by
  go_enter Tryd.func30, Tryd.ntmps30
  go_wp2
  go_loop [5] (fun i => ∃ k : Nat, k ≤ s.size ∧ i = .int .i64 k ∧ ∀ j, j < k → inB (s.data.toList.getD j 0) = true) (fun i => s.size - (RowKit.intOf i).toNat)
  case atStart => exact ⟨0, Nat.zero_le _, rfl, fun j hj => absurd hj (Nat.not_lt_zero _)⟩
  case round =>
    obtain ⟨k, hk, rfl, hall⟩ := hrel
    have hall' := Lib.hid hall
    clear hall
    have hout : nlen s.data.toList = k → ((k = 0 ∨ 64 < k) → CutNameP s.data.toList (.returned (.tuple #[.string ⟨#[]⟩, .string ⟨#[]⟩, .bool false]))) ∧ (¬ (k = 0 ∨ 64 < k) → CutNameP s.data.toList (.returned (.tuple #[.string (s.extract 0 k), .string (s.extract k s.size), .bool true]))) := fun hn =>
      ⟨fun h => .inl ⟨by unfold nameC; rw [hn, if_pos h], rfl⟩, fun h => .inr ⟨_, _, by
        unfold nameC
        rw [hn, if_neg h, Lib.extract_to_end, Lib.extract_data]; rfl, rfl⟩⟩
    by_cases hgo : k < s.size ∧ inB (s.data.toList.getD k 0) = true
    · obtain ⟨hlt, hin⟩ := hgo
      have hnext : ∀ j, j < k + 1 → inB (s.data.toList.getD j 0) = true := fun j hj => by
        rcases Nat.lt_succ_iff_lt_or_eq.1 hj with h | h
        · exact hall'.out j h
        · rw [h]; exact hin
      have hnext' := Lib.hid hnext
      have cI := fun W => inName_any (s[k]'hlt) W
      rw [← data_at s k hlt, hin, data_at s k hlt] at cI
      clear hnext hin hout
      go_wp2_with (go_at_call 49; refine (cI _).mono ?_; rintro e w' ⟨rfl, rfl⟩)
      go_round
      case rel => exact ⟨k + 1, by omega, by go_num, hnext'.out⟩
      case measure => simp [RowKit.intOf]; omega
    · have hn : nlen s.data.toList = k := cutName_fin s k hk hall'.out (fun h => by
        rw [Bool.eq_false_iff]; exact fun h' => hgo ⟨h, h'⟩)
      obtain ⟨f1, f2⟩ := hout hn
      have f1' := Lib.hid f1
      have f2' := Lib.hid f2
      clear f1 f2 hn hout
      by_cases hlt : k < s.size
      · have hin : inB (s.data.toList.getD k 0) = false := by rw [Bool.eq_false_iff]; exact fun h' => hgo ⟨hlt, h'⟩
        have cI := fun W => inName_any (s[k]'hlt) W
        rw [← data_at s k hlt, hin, data_at s k hlt] at cI
        clear hin hgo
        rcases Nat.lt_or_ge 64 k with h64 | h64
        · have d0 : ((k : Int) == 0) = false := beq_eq_false_iff_ne.2 (by omega)
          go_wp2_with (go_at_call 49; refine (cI _).mono ?_; rintro e w' ⟨rfl, rfl⟩)
          go_ret3
          exact ⟨f1'.out (.inr h64), Below.refl _ _⟩
        · by_cases h0 : k = 0
          · subst h0
            go_wp2_with (go_at_call 49; refine (cI _).mono ?_; rintro e w' ⟨rfl, rfl⟩)
            go_ret3
            exact ⟨f1'.out (by simp), Below.refl _ _⟩
          · have d0 : ((k : Int) == 0) = false := beq_eq_false_iff_ne.2 (by omega)
            go_wp2_with (go_at_call 49; refine (cI _).mono ?_; rintro e w' ⟨rfl, rfl⟩)
            go_quiet (fail)
            go_wp2
            go_ret3
            exact ⟨f2'.out (by omega), below_drew _ _⟩
      · clear hgo
        rcases Nat.lt_or_ge 64 k with h64 | h64
        · have d0 : ((k : Int) == 0) = false := beq_eq_false_iff_ne.2 (by omega)
          go_wp2
          go_ret3
          exact ⟨f1'.out (.inr h64), Below.refl _ _⟩
        · by_cases h0 : k = 0
          · subst h0
            go_wp2
            go_ret3
            exact ⟨f1'.out (by simp), Below.refl _ _⟩
          · have d0 : ((k : Int) == 0) = false := beq_eq_false_iff_ne.2 (by omega)
            go_wp2
            go_quiet (fail)
            go_wp2
            go_ret3
            exact ⟨f2'.out (by omega), below_drew _ _⟩

theorem nonempty_of (s : ByteArray) (h : s.data.toList ≠ []) : s.toList.isEmpty = false := by
  rw [Lib.toList_data]
  cases h' : s.data.toList with
  | nil => exact absurd h' h
  | cons _ _ => rfl
theorem empty_of (s : ByteArray) (h : s.data.toList = []) : s.toList.isEmpty = true := by rw [Lib.toList_data, h]; rfl
theorem size_pos (s : ByteArray) {c : UInt8} (h : s.data.toList.head? = some c) : 1 ≤ s.size := by
  rw [Lib.size_eq]
  cases h' : s.data.toList with
  | nil => rw [h'] at h; cases h
  | cons x t => simp
theorem cut_tail (s : ByteArray) : (s.extract 1 s.size).data.toList = s.data.toList.tail := by rw [Lib.extract_to_end, List.drop_one]

set_option maxHeartbeats 2000000 in
set_option maxRecDepth 100000 in
theorem name_any (s : ByteArray) (w : World) (hs : s.size ≤ 9223372036854775807) :
    Calls Tryd.prog 12 #[.string s] w fun e w' => e = .returned (.bool (nameB s.data.toList)) ∧ Below w.heap.size w w' := by
  have hN := Lib.hid (name_of_cut s.data.toList)
  generalize nameB s.data.toList = R at hN ⊢
  go_enter Tryd.func12, Tryd.ntmps12
  go_wp2_with fail
  go_at_call 30
  refine (cutName_any s w hs).mono ?_
  rintro e w1 ⟨hc, hb⟩
  rcases hc with ⟨h1, rfl⟩ | ⟨n, r, h1, rfl⟩
  · have hR := hN.out
    rw [h1] at hR
    have hR' := Lib.hid hR
    clear hR h1
    go_wp2
    go_ret
    exact ⟨ret_bool hR'.out.symm, hb⟩
  · have hR := hN.out
    rw [h1] at hR
    have hR' := Lib.hid hR
    clear hR h1
    by_cases h0 : r.data.toList = []
    · have he := empty_of r h0
      have hR2 := hR'.out
      dsimp only at hR2
      rw [h0] at hR2
      have hR3 := Lib.hid hR2
      clear h0 hR2
      go_wp2
      go_ret
      exact ⟨ret_bool hR3.out.symm, hb⟩
    · have he := nonempty_of r h0
      have hR2 := hR'.out
      dsimp only at hR2
      rw [List.isEmpty_eq_false_iff.2 h0] at hR2
      have hR3 := Lib.hid hR2
      clear h0 hR2
      go_wp2
      go_ret
      exact ⟨ret_bool hR3.out.symm, hb⟩

set_option maxHeartbeats 2000000 in
set_option maxRecDepth 100000 in
theorem refName_any (s : ByteArray) (w : World) (hs : s.size ≤ 9223372036854775807) :
    Calls Tryd.prog 13 #[.string s] w fun e w' => e = .returned (.bool (nameB s.data.toList)) ∧ w = w' := by
  have hno : ∀ k, k < s.size → inB (s.data.toList.getD k 0) = false → nameB s.data.toList = false := fun k hk h => by
    unfold nameB
    have : s.data.toList.all inB = false := by
      rw [List.all_eq_false]
      rw [Lib.size_eq] at hk
      refine ⟨_, List.getElem_mem hk, ?_⟩
      rw [List.getD_eq_getElem?_getD, List.getElem?_eq_getElem hk] at h
      simpa using h
    rw [this]; rfl
  have hyes : (∀ j, j < s.size → inB (s.data.toList.getD j 0) = true) → nameB s.data.toList = (decide (1 ≤ s.size) && decide (s.size ≤ 64)) := fun h => by
    unfold nameB
    have : s.data.toList.all inB = true := by
      rw [List.all_eq_true]
      intro x hx
      obtain ⟨k, hk, rfl⟩ := List.getElem_of_mem hx
      have := h k (by rw [Lib.size_eq]; exact hk)
      rwa [List.getD_eq_getElem?_getD, List.getElem?_eq_getElem hk] at this
    rw [this, Lib.size_eq]; rfl
  generalize nameB s.data.toList = R at hno hyes ⊢
  have hno' := Lib.hid hno
  have hyes' := Lib.hid hyes
  clear hno hyes
  go_enter Tryd.func13, Tryd.ntmps13
  go_wp2
  go_loop [3] (fun i => ∃ k : Nat, k ≤ s.size ∧ i = .int .i64 k ∧ ∀ j, j < k → inB (s.data.toList.getD j 0) = true) (fun i => s.size - (RowKit.intOf i).toNat)
  case atStart => exact ⟨0, Nat.zero_le _, rfl, fun j hj => absurd hj (Nat.not_lt_zero _)⟩
  case round =>
    obtain ⟨k, hk, rfl, hall⟩ := hrel
    have hall' := Lib.hid hall
    clear hall
    by_cases hlt : k < s.size
    · cases hin : inB (s.data.toList.getD k 0)
      · have cI := fun W => refIn_any (s[k]'hlt) W
        rw [← data_at s k hlt, hin, data_at s k hlt] at cI
        have hR := Lib.hid (hno'.out k hlt hin)
        clear hin
        go_wp2_with (go_at_call 31; refine (cI _).mono ?_; rintro e w' ⟨rfl, rfl⟩)
        go_ret
        exact ⟨ret_bool hR.out.symm, rfl⟩
      · have hnext : ∀ j, j < k + 1 → inB (s.data.toList.getD j 0) = true := fun j hj => by
          rcases Nat.lt_succ_iff_lt_or_eq.1 hj with h | h
          · exact hall'.out j h
          · rw [h]; exact hin
        have hnext' := Lib.hid hnext
        have cI := fun W => refIn_any (s[k]'hlt) W
        rw [← data_at s k hlt, hin, data_at s k hlt] at cI
        clear hnext hin
        go_wp2_with (go_at_call 31; refine (cI _).mono ?_; rintro e w' ⟨rfl, rfl⟩)
        go_round
        case rel => exact ⟨k + 1, by omega, by go_num, hnext'.out⟩
        case measure => simp [RowKit.intOf]; omega
    · have hR := Lib.hid (hyes'.out fun j hj => hall'.out j (by omega))
      by_cases h1 : 1 ≤ s.size
      · by_cases h2 : s.size ≤ 64
        · have hR2 := hR.out
          rw [decide_eq_true h1, decide_eq_true h2] at hR2
          have hR3 := Lib.hid hR2
          have d2 : decide ((s.size : Int) ≤ 64) = true := decide_eq_true (by omega)
          clear hR2
          go_wp2
          go_ret
          exact ⟨ret_bool hR3.out.symm, rfl⟩
        · have hR2 := hR.out
          rw [decide_eq_true h1, decide_eq_false h2] at hR2
          have hR3 := Lib.hid hR2
          have h2' : 64 < s.size := by omega
          have d2 : decide ((s.size : Int) ≤ 64) = false := decide_eq_false (by omega)
          clear hR2 h2
          go_wp2
          go_ret
          exact ⟨ret_bool hR3.out.symm, rfl⟩
      · have hR2 := hR.out
        rw [decide_eq_false h1] at hR2
        have hR3 := Lib.hid hR2
        have d1 : decide ((1 : Int) ≤ (s.size : Int)) = false := decide_eq_false (by omega)
        clear hR2
        go_wp2
        go_ret
        exact ⟨ret_bool hR3.out.symm, rfl⟩

/-! ### prefixes of one byte -/
theorem pre_one (l : Row) (c : UInt8) : Lib.hasPrefix l [c] = decide (l.head? = some c) := by
  unfold Lib.hasPrefix
  cases l with
  | nil => rfl
  | cons x t => rw [Bool.eq_iff_iff]; simp; exact eq_comm
theorem hasPre_any (s : ByteArray) (c : UInt8) (w : World) :
    Calls Tryd.prog 44 #[.string s, .string ⟨#[c]⟩] w fun e w' => e = .returned (.bool (decide (s.data.toList.head? = some c))) ∧ w = w' :=
  (Tryd.strings_HasPrefix s ⟨#[c]⟩ w).mono fun e w' ⟨h1, h2⟩ => ⟨by
    rw [h1]
    refine ret_bool ?_
    exact pre_one _ c, h2.symm⟩
/-- .. with its answer known -/
theorem hasPre_is (s : ByteArray) (c : UInt8) (v : Bool) (w : World) (h : decide (s.data.toList.head? = some c) = v) :
    Calls Tryd.prog 44 #[.string s, .string ⟨#[c]⟩] w fun e w' => e = .returned (.bool v) ∧ w = w' := by
  have := hasPre_any s c w
  rwa [h] at this
def CutPreP (c : UInt8) (s : ByteArray) (e : Ending) : Prop :=
  (s.data.toList.head? ≠ some c ∧ e = .returned (.tuple #[.string s, .bool false])) ∨
  (s.data.toList.head? = some c ∧ ∃ r : ByteArray, r.data.toList = s.data.toList.tail ∧ e = .returned (.tuple #[.string r, .bool true]))
theorem cutPre_any (s : ByteArray) (c : UInt8) (w : World) :
    Calls Tryd.prog 24 #[.string s, .string ⟨#[c]⟩] w fun e w' => CutPreP c s e ∧ w = w' :=
  (Tryd.strings_CutPrefix s ⟨#[c]⟩ w).mono fun e w' ⟨h1, h2⟩ => ⟨by
    have e1 : (⟨#[c]⟩ : ByteArray).data.toList = [c] := rfl
    rw [h1, e1]
    unfold Lib.trimPrefix
    rw [pre_one]
    by_cases h : s.data.toList.head? = some c
    · rw [decide_eq_true h, if_pos rfl]
      exact .inr ⟨h, _, by simp, rfl⟩
    · rw [decide_eq_false h, if_neg (by decide), Lib.mk_data]
      exact .inl ⟨h, rfl⟩, h2.symm⟩
end Go.Proofs.YthkcjfoihieooaaDoor.Li
