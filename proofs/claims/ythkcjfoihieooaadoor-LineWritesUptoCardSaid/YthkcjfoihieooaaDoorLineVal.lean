/-
  THE WALK OF THE REFERENCE's (*Scan).value: A VALUE OUTSIDE QUOTES.
-/
import Derived.Test.YthkcjfoihieooaaDoorLineSign
set_option linter.unusedVariables false
namespace Go.Proofs.YthkcjfoihieooaaDoor.Li
open Go.Lib Go.RowKit

def plen (p : UInt8 → Bool) (l : Row) : Nat := (l.takeWhile p).length
theorem plen_le (p : UInt8 → Bool) (l : Row) : plen p l ≤ l.length := by unfold plen; exact (List.takeWhile_sublist _).length_le
theorem plen_at (p : UInt8 → Bool) (l : Row) (k : Nat) (hk : k ≤ l.length) (h1 : ∀ j, j < k → p (l.getD j 0) = true) (h2 : k < l.length → p (l.getD k 0) = false) : plen p l = k := by
  unfold plen
  rw [(span_take k hk h1 h2).1, List.length_take]
  omega
theorem plen_drop (p : UInt8 → Bool) (s : ByteArray) (k A : Nat) (hk : k ≤ A) (hA : A ≤ s.size) (h1 : ∀ i, k ≤ i → i < A → p (s.data.toList.getD i 0) = true) (h2 : A < s.size → p (s.data.toList.getD A 0) = false) : plen p (s.data.toList.drop k) = A - k := by
  refine plen_at p _ _ (by rw [List.length_drop, ← Lib.size_eq]; omega) (fun j hj => ?_) (fun hlt => ?_)
  · rw [Ch.getD_drop]; exact h1 _ (by omega) (by omega)
  · rw [Ch.getD_drop, show k + (A - k) = A by omega]
    exact h2 (by rw [List.length_drop, ← Lib.size_eq] at hlt; omega)
theorem quiet_again {P : Program} {f : FuncId} {args : Array Value} {w : World} {a n : Nat} {v : Value}
    (h : Calls P f args (w.drewN (a + n)) fun e w' => e = .returned v ∧ w' = w.drewN (a + n)) :
    Calls P f args (w.drewN (a + n)) fun e w'' => e = .returned v ∧ ∃ m, w'' = w.drewN (a + m) :=
  h.mono fun _ _ ⟨he, hm⟩ => ⟨he, n, hm⟩
def signsV : Row := [44, 59, 58, 34]
def plainV (c : UInt8) : Bool := !signsV.contains c
def strOf (l : Row) : Ending := .returned (.string ⟨l.toArray⟩)

set_option maxHeartbeats 8000000 in
set_option maxRecDepth 100000 in
theorem scPlain (b : Nat) (s : ByteArray) (k x : Nat) (w : World) (h : Sc b s k x w) (hk : k ≤ s.size) (hs : s.size ≤ 4611686018427387904) (hq : ∀ h : k < s.size, s[k]'h ≠ 34) :
    Calls Tryd.prog 29 #[.pointer (some ⟨b, 0, none⟩)] w fun e w' => e = strOf (mean ((s.data.toList.drop k).take (plen plainV (s.data.toList.drop k)))) ∧ Sc b s (k + plen plainV (s.data.toList.drop k)) x w' ∧ w.grownBy w' (some b) := by
  have hN : ∀ A, k ≤ A → A ≤ s.size → (∀ i, k ≤ i → i < A → plainV (s.data.toList.getD i 0) = true) → (A < s.size → plainV (s.data.toList.getD A 0) = false) → plen plainV (s.data.toList.drop k) = A - k := fun A h1 h2 h3 h4 => plen_drop plainV s k A h1 h2 h3 h4
  generalize plen plainV (s.data.toList.drop k) = n at hN ⊢
  have hN' := Lib.hid hN
  obtain ⟨c0, c1, c2, f1, f2⟩ := h.cells
  have h' := Lib.hid h
  clear hN h
  go_enter Tryd.func29, Tryd.ntmps29
  go_wp2
  have hc0 : (∃ h : k < s.size, (((s[k]'h).toNat : Int) == 34) = false) ∨ decide (k < s.size) = false := by
    by_cases hlt0 : k < s.size
    · exact .inl ⟨hlt0, byte_ne _ 34 (hq hlt0)⟩
    · exact .inr (decide_eq_false hlt0)
  rcases hc0 with ⟨hlt0, hv⟩ | dl
  all_goals
    go_quiet (fail)
    go_wp2
    clear c0 c1 c2 f1 f2
    go_loopw [] (fun wr => ∃ A : Nat, k ≤ A ∧ A ≤ s.size ∧ Hid (Sc b s A x wr) ∧ w.grownBy wr (some b) ∧ ∀ i, k ≤ i → i < A → plainV (s.data.toList.getD i 0) = true) (fun wr => s.size - atOf b wr)
    case atStart => exact ⟨k, Nat.le_refl _, hk, Lib.hid (h'.out.drewN _), gr_drewN (World.grownBy.refl w _) _, fun i h1 h2 => by omega⟩
    case round =>
      obtain ⟨A, hkA, hA, hsc, hg, hall⟩ := hrel
      have hall' := Lib.hid hall
      have hat := Lib.hid (atOf_is hsc.out)
      obtain ⟨c0, c1, c2, f1, f2⟩ := hsc.out.cells
      clear hall
      by_cases hlt : A < s.size
      · obtain ⟨B, hB⟩ : ∃ B, A + 1 = B := ⟨_, rfl⟩
        have hod := one_data s A hlt
        rw [hB] at hod
        obtain ⟨b1, hb1⟩ : ∃ b1, s.extract A B = b1 := ⟨_, rfl⟩
        rw [hb1] at hod
        have hAI : (A : Int) + 1 = (B : Int) := by omega
        have j1 : (A : Int) ≤ (B : Int) := by omega
        have j2 : (B : Int) ≤ (s.size : Int) := by omega
        have j3 : (0 : Int) ≤ (A : Int) := by omega
        have j4 : ¬ (B : Int) < (A : Int) := by omega
        have j5 : ¬ (s.size : Int) < (B : Int) := by omega
        have j6 : B ≤ s.size := by omega
        have j7 : A < B := by omega
        have hwB : IntKind.i64.wrap (B : Int) = (B : Int) := Go.IntWalk.i64_in _ ⟨by omega, by omega⟩
        have hb1s : b1.size ≤ 1 := by rw [Lib.size_eq, hod]; exact Nat.le_refl _
        have cH : ∀ W v, signsV.contains (s[A]'hlt) = v → Calls Tryd.prog 26 #[.string b1, .string ⟨#[44, 59, 58, 34]⟩] W fun e w' => e = .returned (.bool v) ∧ ∃ m, w' = W.drewN m := fun W v hv => by
          have := refHas_any b1 ⟨#[44, 59, 58, 34]⟩ W (by omega) (by decide)
          have e0 : (ByteArray.mk #[44, 59, 58, 34]).data.toList = signsV := rfl
          rw [hod, hasB_one, e0, hv] at this
          exact this
        have hpl : plainV (s.data.toList.getD A 0) = !signsV.contains (s[A]'hlt) := by rw [data_at s A hlt]; rfl
        cases hc : signsV.contains (s[A]'hlt)
        · have cH1 := fun W => cH W false hc
          have hnext : ∀ i, k ≤ i → i < A + 1 → plainV (s.data.toList.getD i 0) = true := fun i h1 h2 => by
            rcases Nat.lt_succ_iff_lt_or_eq.1 h2 with h | h
            · exact hall'.out i h1 h
            · rw [h, hpl, hc]; rfl
          have hnext' := Lib.hid hnext
          have hB' := Lib.hid hB
          clear hod hb1s cH hpl hc hnext
          go_wp2
          go_quiet ((go_at_call 26; exact quiet_add (cH1 _)))
          go_wp2
          have hs2 : ∀ q, Sc b s (A + 1) x ((wr.drewN q).setCell ⟨b, 1, none⟩ (.int .i64 ((A + 1 : Nat) : Int))) := fun q => (hsc.out.drewN q).at_
          rw [hB'.out] at hs2
          go_roundw
          case rel => exact ⟨B, by omega, by omega, Lib.hid (hs2 _), gr_set (gr_drewN hg _) _, by rw [← hB'.out]; exact hnext'.out⟩
          case measure =>
            rw [hat.out]
            show s.size - atOf b ((wr.drewN _).setCell ⟨b, 1, none⟩ (.int .i64 (B : Int))) < s.size - A
            rw [atOf_is (hs2 _)]
            omega
        · have cH1 := fun W => cH W true hc
          have hstop : A < s.size → plainV (s.data.toList.getD A 0) = false := fun _ => by rw [hpl, hc]; rfl
          have hn : n = A - k := hN'.out A hkA hA hall'.out hstop
          have hfin : ∀ W, Sc b s A x W → w.grownBy W (some b) → (strOf (mean (s.extract k A).data.toList) = strOf (mean ((s.data.toList.drop k).take n)) ∧ Sc b s (k + n) x W ∧ w.grownBy W (some b)) := fun W h1 h2 => ⟨by rw [Lib.extract_data, hn], by rw [show k + n = A by omega]; exact h1, h2⟩
          have hfin' := Lib.hid hfin
          have i1 : (k : Int) ≤ (A : Int) := by omega
          have i2 : (A : Int) ≤ (s.size : Int) := by omega
          have i3 : ¬ (A : Int) < (k : Int) := by omega
          have i4 : ¬ (s.size : Int) < (A : Int) := by omega
          have i5 : (0 : Int) ≤ (k : Int) := by omega
          have cM : ∀ W, Calls Tryd.prog 48 #[.string (s.extract k A)] W fun e w' => e = .returned (.string ⟨(mean (s.extract k A).data.toList).toArray⟩) ∧ w' = W := fun W => (refMeant_any (s.extract k A) W (by rw [Lib.size_eq, Lib.extract_data, List.length_take]; omega)).mono fun e w' ⟨h1, h2⟩ => ⟨h1, h2.symm⟩
          clear hod hb1s cH hpl hc hstop hn hfin
          go_wp2
          go_quiet ((go_at_call 26; exact quiet_add (cH1 _)))
          go_wp2
          go_quiet ((go_at_call 48; first | exact Calls.quiet_of_same (cM _) | exact quiet_again (cM _)))
          go_wp2
          go_ret
          exact hfin'.out _ hsc.out (gr_drewN (gr_drewN hg _) _)
      · have dl1 : decide (A < s.size) = false := decide_eq_false hlt
        have hn : n = A - k := hN'.out A hkA hA hall'.out (fun h => absurd h hlt)
        have hfin : ∀ W, Sc b s A x W → w.grownBy W (some b) → (strOf (mean (s.extract k A).data.toList) = strOf (mean ((s.data.toList.drop k).take n)) ∧ Sc b s (k + n) x W ∧ w.grownBy W (some b)) := fun W h1 h2 => ⟨by rw [Lib.extract_data, hn], by rw [show k + n = A by omega]; exact h1, h2⟩
        have hfin' := Lib.hid hfin
        have i1 : (k : Int) ≤ (A : Int) := by omega
        have i2 : (A : Int) ≤ (s.size : Int) := by omega
        have i3 : ¬ (A : Int) < (k : Int) := by omega
        have i4 : ¬ (s.size : Int) < (A : Int) := by omega
        have i5 : (0 : Int) ≤ (k : Int) := by omega
        have cM : ∀ W, Calls Tryd.prog 48 #[.string (s.extract k A)] W fun e w' => e = .returned (.string ⟨(mean (s.extract k A).data.toList).toArray⟩) ∧ w' = W := fun W => (refMeant_any (s.extract k A) W (by rw [Lib.size_eq, Lib.extract_data, List.length_take]; omega)).mono fun e w' ⟨h1, h2⟩ => ⟨h1, h2.symm⟩
        clear hn hfin
        go_wp2
        go_quiet (fail)
        go_wp2
        go_quiet ((go_at_call 48; first | exact Calls.quiet_of_same (cM _) | exact quiet_again (cM _)))
        go_wp2
        go_ret
        exact hfin'.out _ hsc.out (gr_drewN (gr_drewN hg _) _)
