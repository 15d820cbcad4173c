/-
  WALKS OF THE REFERENCE OF LAYER http: Range, Name.
-/
import Derived.Test.YtiaollhiggeolaaDoorHttpMem
import Derived.IntWalk
import Derived.BigQuiet
import Derived.Deep.QuietTactic
import Derived.LoopTactic
set_option linter.unusedVariables false
namespace Go.Proofs.YtiaollhiggeolaaDoor.Ht
open Go.Lib Go.RowKit

theorem byte_is (b : UInt8) (v : Nat) (h : b.toNat = v) (n : Nat) (hn : n < 256) : (b = UInt8.ofNat n ↔ v = n) := by
  rw [← h]
  constructor
  · intro e; rw [e]; simp; omega
  · intro e; rw [← e]; simp
theorem all_step {p : UInt8 → Bool} {s : ByteArray} {k : Nat} (hk : k < s.size) (h : (s.data.toList.take k).all p = true) : (s.data.toList.take (k + 1)).all p = p (s[k]'hk) := by
  have hl : k < s.data.toList.length := by rw [← Lib.size_eq]; exact hk
  rw [List.take_succ_eq_append_getElem hl, List.all_append, h]
  simp
  rfl
theorem all_no {p : UInt8 → Bool} {s : ByteArray} {k : Nat} (hk : k < s.size) (h : p (s[k]'hk) = false) : s.data.toList.all p = false := by
  have hl : k < s.data.toList.length := by rw [← Lib.size_eq]; exact hk
  cases ha : s.data.toList.all p with
  | false => rfl
  | true =>
    have := List.all_eq_true.1 ha _ (List.getElem_mem hl)
    rw [show s.data.toList[k] = s[k]'hk from rfl, h] at this
    cases this
/-- one byte of a range -/
def rgB (lo hi : Nat) (tab : Bool) (c : UInt8) : Bool := decide (lo ≤ c.toNat ∧ c.toNat ≤ hi) || (tab && c == 9)
theorem rng_all (lo hi : Nat) (tab : Bool) (s : Row) : rng lo hi tab s = s.all (rgB lo hi tab) := rfl
theorem rg_in {lo hi v : Nat} {tab : Bool} {c : UInt8} (hv : c.toNat = v) (h1 : ¬ v < lo) (h2 : ¬ hi < v) : rgB lo hi tab c = true := by
  unfold rgB
  rw [hv, decide_eq_true ⟨by omega, by omega⟩]; rfl
theorem rg_nine {lo hi v : Nat} {c : UInt8} (hv : c.toNat = v) (h : v = 9) : rgB lo hi true c = true := by
  unfold rgB
  rw [(byte_is c v hv 9 (by decide)).2 h]
  simp
theorem rg_out {lo hi v : Nat} {tab : Bool} {c : UInt8} (hv : c.toNat = v) (h : v < lo ∨ hi < v) (h9 : tab = false ∨ v ≠ 9) : rgB lo hi tab c = false := by
  unfold rgB
  rw [hv, decide_eq_false (by omega)]
  rcases h9 with rfl | h9
  · rfl
  · have : ¬ c = UInt8.ofNat 9 := fun e => h9 ((byte_is c v hv 9 (by decide)).1 e)
    simp only [Bool.false_or, Bool.and_eq_false_iff, beq_eq_false_iff_ne]
    exact .inr this
set_option maxHeartbeats 4000000 in
set_option maxRecDepth 100000 in
theorem refRange_any (s : ByteArray) (lo hi : Nat) (tab : Bool) (w : World) (h1 : lo < 256) (h2 : hi < 256) (hs : s.size ≤ 9223372036854775807) : Calls Tryd.prog 24 #[.string s, .int .u8 (lo : Int), .int .u8 (hi : Int), .bool tab] w fun e w' => e = .returned (.bool (rng lo hi tab s.data.toList)) ∧ w' = w := by
  rw [rng_all]
  obtain ⟨R, hR⟩ : ∃ R, s.data.toList.all (rgB lo hi tab) = R := ⟨_, rfl⟩
  rw [hR]
  have hR' := Lib.hid hR
  clear hR
  go_enter Tryd.func24, Tryd.ntmps24
  go_wp2
  go_loopw [9] (fun s9 wr => ∃ k : Nat, s9 = .int .i64 (k : Int) ∧ k ≤ s.size ∧ (s.data.toList.take k).all (rgB lo hi tab) = true ∧ wr = w) (fun s9 wr => s.size - (RowKit.intOf s9).toNat)
  case atStart => exact ⟨0, rfl, Nat.zero_le _, rfl, rfl⟩
  case round =>
    obtain ⟨k, rfl, hk, hall, rfl⟩ := hrel
    by_cases hlt : k < s.size
    · have hst := all_step hlt hall
      have hno := all_no (p := rgB lo hi tab) hlt
      obtain ⟨c, hc⟩ : ∃ c, s[k]'hlt = c := ⟨_, rfl⟩
      rw [hc] at hst hno
      obtain ⟨v, hv⟩ : ∃ v, c.toNat = v := ⟨_, rfl⟩
      have hgo : (v < lo ∨ hi < v) ∧ (tab = false ∨ v ≠ 9) → R = false := fun h => by rw [← hR'.out]; exact hno (rg_out hv h.1 h.2)
      have hok : (¬ v < lo ∧ ¬ hi < v) ∨ (tab = true ∧ v = 9) → (s.data.toList.take (k + 1)).all (rgB lo hi tab) = true := fun h => by
        rw [hst]
        rcases h with h | ⟨rfl, h⟩
        · exact rg_in hv h.1 h.2
        · exact rg_nine hv h
      have hgo' := Lib.hid hgo
      have hok' := Lib.hid hok
      have hcv : (s[k]'hlt).toNat = v := by rw [hc, hv]
      clear hst hno hgo hok hall hc hv
      by_cases c1 : v < lo
      · cases tab with
        | false =>
          have hRf : R = false := hgo'.out ⟨.inl c1, .inl rfl⟩
          subst hRf
          go_wp2
          go_ret
          exact ⟨rfl, rfl⟩
        | true =>
          by_cases c3 : v = 9
          · have hst' := Lib.hid (hok'.out (.inr ⟨rfl, c3⟩))
            go_wp2
            go_roundw
            case rel => exact ⟨k + 1, by go_num, by omega, hst'.out, trivial⟩
            case measure => simp [RowKit.intOf]; omega
          · have hRf : R = false := hgo'.out ⟨.inl c1, .inr c3⟩
            subst hRf
            have c4 : ((v : Int) == 9) = false := beq_false_of_ne (by omega)
            go_wp2
            go_ret
            exact ⟨rfl, rfl⟩
      · by_cases c2 : hi < v
        · cases tab with
          | false =>
            have hRf : R = false := hgo'.out ⟨.inr c2, .inl rfl⟩
            subst hRf
            go_wp2
            go_ret
            exact ⟨rfl, rfl⟩
          | true =>
            by_cases c3 : v = 9
            · have hst' := Lib.hid (hok'.out (.inr ⟨rfl, c3⟩))
              go_wp2
              go_roundw
              case rel => exact ⟨k + 1, by go_num, by omega, hst'.out, trivial⟩
              case measure => simp [RowKit.intOf]; omega
            · have hRf : R = false := hgo'.out ⟨.inr c2, .inr c3⟩
              subst hRf
              have c4 : ((v : Int) == 9) = false := beq_false_of_ne (by omega)
              go_wp2
              go_ret
              exact ⟨rfl, rfl⟩
        · have hst' := Lib.hid (hok'.out (.inl ⟨c1, c2⟩))
          go_wp2
          go_roundw
          case rel => exact ⟨k + 1, by go_num, by omega, hst'.out, trivial⟩
          case measure => simp [RowKit.intOf]; omega
    · have hRt : R = true := by
        rw [← hR'.out, ← hall, List.take_of_length_le (by rw [← Lib.size_eq]; omega)]
      clear hall
      subst hRt
      go_wp2
      go_ret
      exact ⟨rfl, rfl⟩
theorem nm_of (b : UInt8) (v : Nat) (h : b.toNat = v) : Hid (∀ r : Bool, (r = true ↔ ((97 ≤ v ∧ v ≤ 122) ∨ (65 ≤ v ∧ v ≤ 90) ∨ (48 ≤ v ∧ v ≤ 57) ∨ v = 45)) → r = nmC b) := Lib.hid fun r hr => by
  unfold nmC
  rw [h, Bool.eq_iff_iff, hr, decide_eq_true_iff]
set_option maxHeartbeats 4000000 in
set_option maxRecDepth 100000 in
theorem refName_any (s : ByteArray) (w : World) (hs : s.size ≤ 9223372036854775807) : Calls Tryd.prog 25 #[.string s] w fun e w' => e = .returned (.bool (nmB s.data.toList)) ∧ w' = w := by
  unfold nmB
  rw [← Lib.size_eq]
  obtain ⟨R, hR⟩ : ∃ R, s.data.toList.all nmC = R := ⟨_, rfl⟩
  rw [hR]
  have hR' := Lib.hid hR
  clear hR
  go_enter Tryd.func25, Tryd.ntmps25
  go_wp2
  go_loopw [3] (fun s3 wr => ∃ k : Nat, s3 = .int .i64 (k : Int) ∧ k ≤ s.size ∧ (s.data.toList.take k).all nmC = true ∧ wr = w) (fun s3 wr => s.size - (RowKit.intOf s3).toNat)
  case atStart => exact ⟨0, rfl, Nat.zero_le _, rfl, rfl⟩
  case round =>
    obtain ⟨k, rfl, hk, hall, rfl⟩ := hrel
    by_cases hlt : k < s.size
    · have hst := all_step hlt hall
      have hno := all_no (p := nmC) hlt
      obtain ⟨c, hc⟩ : ∃ c, s[k]'hlt = c := ⟨_, rfl⟩
      rw [hc] at hst hno
      obtain ⟨v, hv⟩ : ∃ v, c.toNat = v := ⟨_, rfl⟩
      have H := nm_of c v hv
      have hcv : (s[k]'hlt).toNat = v := by rw [hc, hv]
      have hst' := Lib.hid hst
      have hno' := Lib.hid hno
      clear hst hno hall hc hv
      have hcase : (v < 45 ∨ (45 < v ∧ v < 48) ∨ (57 < v ∧ v < 65) ∨ (90 < v ∧ v < 97) ∨ 122 < v) ∨ (v = 45 ∨ (48 ≤ v ∧ v ≤ 57) ∨ (65 ≤ v ∧ v ≤ 90) ∨ (97 ≤ v ∧ v ≤ 122)) := by omega
      rcases hcase with hb | hg
      · have hRf : R = false := by
          rw [← hR'.out]
          exact hno'.out (H.out false ⟨fun h => absurd h (by decide), fun h => by omega⟩).symm
        subst hRf
        have c5 : ((v : Int) == 45) = false := beq_false_of_ne (by omega)
        clear H hst' hno'
        rcases hb with h | ⟨h, h'⟩ | ⟨h, h'⟩ | ⟨h, h'⟩ | h
        all_goals
          try have e1 : decide ((v : Int) ≤ 122) = false := decide_eq_false (by omega)
          try have e2 : decide ((v : Int) ≤ 90) = false := decide_eq_false (by omega)
          try have e3 : decide ((v : Int) ≤ 57) = false := decide_eq_false (by omega)
          go_wp2
          go_ret
          exact ⟨rfl, rfl⟩
      · have hst2 := Lib.hid (hst'.out.trans (H.out true ⟨fun _ => by omega, fun _ => rfl⟩).symm)
        clear H hst' hno'
        rcases hg with h | ⟨h, h'⟩ | ⟨h, h'⟩ | ⟨h, h'⟩
        all_goals
          go_wp2
          go_roundw
          case rel => exact ⟨k + 1, by go_num, by omega, hst2.out, trivial⟩
          case measure => simp [RowKit.intOf]; omega
    · have hRt : R = true := by
        rw [← hR'.out, ← hall, List.take_of_length_le (by rw [← Lib.size_eq]; omega)]
      clear hall
      subst hRt
      by_cases z0 : 0 < s.size
      · by_cases z1 : s.size < 65
        · go_wp2
          go_ret
          exact ⟨ret_bool (by simp [z0, z1]; omega), rfl⟩
        · go_wp2
          go_ret
          exact ⟨ret_bool (by simp [z0, z1]; omega), rfl⟩
      · go_wp2
        go_ret
        exact ⟨ret_bool (by simp [z0]), rfl⟩
end Go.Proofs.YtiaollhiggeolaaDoor.Ht
