/-
  THE WALK OF THE REFERENCE's (*Scan).sign.
-/
import Derived.Test.YthkcjfoihieooaaDoorLineScan
set_option linter.unusedVariables false
namespace Go.Proofs.YthkcjfoihieooaaDoor.Li
open Go.Lib Go.RowKit

def bad31 (x : Nat) : Nat := if x = 0 then 31 else x
/-- what sign answers, and what becomes of the block -/
def SignP (b : Nat) (s t : ByteArray) (k x : Nat) (e : Ending) (w' : World) : Prop :=
  (∃ c : UInt8, s.data.toList[k]? = some c ∧ t.data.toList.contains c = true ∧ e = .returned (.int .u8 (c.toNat : Int)) ∧ Sc b s (k + 1) x w') ∨
  ((∀ c : UInt8, s.data.toList[k]? = some c → t.data.toList.contains c = false) ∧ e = .returned (.int .u8 0) ∧ Sc b s k (bad31 x) w')
theorem quiet_add {P : Program} {f : FuncId} {args : Array Value} {w : World} {n : Nat} {v : Value}
    (h : Calls P f args (w.drewN n) fun e w' => e = .returned v ∧ ∃ m, w' = (w.drewN n).drewN m) :
    Calls P f args (w.drewN n) fun e w'' => e = .returned v ∧ ∃ m, w'' = w.drewN m :=
  h.mono fun _ _ ⟨he, m, hm⟩ => ⟨he, n + m, by rw [hm, World.drewN_drewN]⟩
theorem hasB_one (c : UInt8) (t : Row) : hasB [c] t = t.contains c := by simp [hasB]

set_option maxHeartbeats 8000000 in
set_option maxRecDepth 100000 in
theorem scSign (b : Nat) (s t : ByteArray) (k x : Nat) (w : World) (h : Sc b s k x w) (hk : k ≤ s.size) (hs : s.size ≤ 4611686018427387904) (ht : t.size ≤ 100) :
    Calls Tryd.prog 28 #[.pointer (some ⟨b, 0, none⟩), .string t] w fun e w' => SignP b s t k x e w' ∧ w.grownBy w' (some b) := by
  obtain ⟨c0, c1, c2, f1, f2⟩ := h.cells
  have h' := Lib.hid h
  have hg := World.grownBy.refl w (some b)
  clear h
  have hbad : (x = 0 ∧ bad31 x = 31) ∨ (x ≠ 0 ∧ bad31 x = x) := by
    unfold bad31
    by_cases h0 : x = 0
    · exact .inl ⟨h0, if_pos h0⟩
    · exact .inr ⟨h0, if_neg h0⟩
  have hno : ∀ W y, (∀ c : UInt8, s.data.toList[k]? = some c → t.data.toList.contains c = false) → Sc b s k y W → bad31 x = y → SignP b s t k x (.returned (.int .u8 0)) W := fun W y h1 h2 h3 => .inr ⟨h1, rfl, by rw [h3]; exact h2⟩
  have hno' := Lib.hid hno
  clear hno
  by_cases hlt : k < s.size
  · have hg1 := Lib.data_getElem? s k hlt
    obtain ⟨A, hA⟩ : ∃ A, k + 1 = A := ⟨_, rfl⟩
    have hod := one_data s k hlt
    rw [hA] at hod
    obtain ⟨b1, hb1⟩ : ∃ b1, s.extract k A = b1 := ⟨_, rfl⟩
    rw [hb1] at hod
    have hAI : (k : Int) + 1 = (A : Int) := by omega
    have j1 : (k : Int) ≤ (A : Int) := by omega
    have j2 : (A : Int) ≤ (s.size : Int) := by omega
    have j3 : (0 : Int) ≤ (k : Int) := by omega
    have j4 : ¬ (A : Int) < (k : Int) := by omega
    have j5 : ¬ (s.size : Int) < (A : Int) := by omega
    have j6 : A ≤ s.size := by omega
    have j7 : k < A := by omega
    have dl : decide (s.size ≤ k) = false := decide_eq_false (by omega)
    have hAb : A ≤ 4611686018427387905 := by omega
    have hwA : IntKind.i64.wrap (A : Int) = (A : Int) := Go.IntWalk.i64_in _ ⟨by omega, by omega⟩
    have hb1s : b1.size ≤ 1 := by rw [Lib.size_eq, hod]; exact Nat.le_refl _
    have cH : ∀ W v, t.data.toList.contains (s[k]'hlt) = v → Calls Tryd.prog 26 #[.string b1, .string t] W fun e w' => e = .returned (.bool v) ∧ ∃ m, w' = W.drewN m := fun W v hv => by
      have := refHas_any b1 t W (by omega) (by omega)
      rw [hod, hasB_one, hv] at this
      exact this
    have hA' := Lib.hid hA
    have hg1' := Lib.hid hg1
    cases hc : t.data.toList.contains (s[k]'hlt)
    · have hall : ∀ c : UInt8, s.data.toList[k]? = some c → t.data.toList.contains c = false := fun c hx => by
        rw [hg1'.out] at hx
        rw [← Option.some.inj hx]; exact hc
      have cH1 := fun W => cH W false hc
      have hall' := Lib.hid hall
      clear hA hg1 hod hb1s hc hall cH
      rcases hbad with ⟨h0, hb⟩ | ⟨h0, hb⟩
      · subst h0
        have hb' := Lib.hid hb
        clear hb
        go_enter Tryd.func28, Tryd.ntmps28
        go_wp2
        go_quiet ((go_at_call 26; exact quiet_add (cH1 _)))
        go_wp2
        go_ret
        exact ⟨hno'.out _ 31 hall'.out ((h'.out.drewN _).bad_) hb'.out, gr_set (gr_drewN hg _) _⟩
      · have dx : ((x : Int) == 0) = false := beq_eq_false_iff_ne.2 (by omega)
        have hb' := Lib.hid hb
        clear hb h0
        go_enter Tryd.func28, Tryd.ntmps28
        go_wp2
        go_quiet ((go_at_call 26; exact quiet_add (cH1 _)))
        go_wp2
        go_ret
        exact ⟨hno'.out _ x hall'.out h'.out hb'.out, gr_drewN hg _⟩
    · have cH1 := fun W => cH W true hc
      have hyes : ∀ W, Sc b s A x W → SignP b s t k x (.returned (.int .u8 ((s[k]'hlt).toNat : Int))) W := fun W hW => .inl ⟨_, hg1'.out, hc, rfl, by rw [hA'.out]; exact hW⟩
      have hyes' := Lib.hid hyes
      have hset : ∀ q, Sc b s A x ((w.drewN q).setCell ⟨b, 1, none⟩ (.int .i64 (A : Int))) := fun q => (h'.out.drewN q).at_
      have hset' := Lib.hid hset
      have hAm : (A : Int) - 1 = (k : Int) := by omega
      clear hA hg1 hod hb1s hc cH hyes hset hbad
      go_enter Tryd.func28, Tryd.ntmps28
      go_wp2
      go_quiet ((go_at_call 26; exact quiet_add (cH1 _)))
      go_wp2
      go_quiet (fail)
      go_wp2
      go_ret
      exact ⟨hyes'.out _ (hset'.out _), gr_drewN (gr_set (gr_drewN hg _) _) _⟩
  · have hall : ∀ c : UInt8, s.data.toList[k]? = some c → t.data.toList.contains c = false := fun c hx => by
      have := (List.getElem?_eq_some_iff.1 hx).1
      rw [← Lib.size_eq] at this
      omega
    have dl : decide ((s.size : Int) ≤ (k : Int)) = true := decide_eq_true (by omega)
    have hall' := Lib.hid hall
    clear hall
    rcases hbad with ⟨h0, hb⟩ | ⟨h0, hb⟩
    · subst h0
      have hb' := Lib.hid hb
      clear hb
      go_enter Tryd.func28, Tryd.ntmps28
      go_wp2
      go_quiet (fail)
      go_wp2
      go_ret
      exact ⟨hno'.out _ 31 hall'.out ((h'.out.drewN _).bad_) hb'.out, gr_set (gr_drewN hg _) _⟩
    · have dx : ((x : Int) == 0) = false := beq_eq_false_iff_ne.2 (by omega)
      have hb' := Lib.hid hb
      clear hb h0
      go_enter Tryd.func28, Tryd.ntmps28
      go_wp2
      go_quiet (fail)
      go_wp2
      go_ret
      exact ⟨hno'.out _ x hall'.out h'.out hb'.out, gr_drewN hg _⟩
end Go.Proofs.YthkcjfoihieooaaDoor.Li
