import Derived.Test.YthnnpnlapjlnoaaGreatDoorMg10
import Derived.Test.YthnnpnlapjlnoaaGreatDoorMg7
import Derived.BigQuiet
import Derived.Deep.QuietTactic
import Derived.LoopTactic
import Derived.IntWalk

/-
  THE WALK OF THE REFERENCE's (*Scan).value: A VALUE OUTSIDE QUOTES.
-/
set_option linter.unusedVariables false
namespace Go.Proofs.YthnnpnlapjlnoaaGreatDoor.Li
open Go.Lib Go.RowKit

def plen (p : UInt8 → Bool) (l : Row) : Nat := (l.takeWhile p).length
theorem plen_le (p : UInt8 → Bool) (l : Row) : plen p l ≤ l.length := by unfold plen; exact (List.takeWhile_sublist _).length_le
theorem plen_at (p : UInt8 → Bool) (l : Row) (k : Nat) (hk : k ≤ l.length) (h1 : ∀ j, j < k → p (l.getD j 0) = true) (h2 : k < l.length → p (l.getD k 0) = false) : plen p l = k := by
  unfold plen
  rw [(span_take k hk h1 h2).1, List.length_take]
  omega
theorem plen_drop (p : UInt8 → Bool) (s : ByteArray) (k A : Nat) (hk : k ≤ A) (hA : A ≤ s.size) (h1 : ∀ i, k ≤ i → i < A → p (s.data.toList.getD i 0) = true) (h2 : A < s.size → p (s.data.toList.getD A 0) = false) : plen p (s.data.toList.drop k) = A - k := by
  refine plen_at p _ _ (by rw [List.length_drop, ← Lib.size_eq]; omega) (fun j hj => ?_) (fun hlt => ?_)
  · rw [Ch.getD_drop]; exact h1 _ (by omega) (by omega)
  · rw [Ch.getD_drop, show k + (A - k) = A by omega]
    exact h2 (by rw [List.length_drop, ← Lib.size_eq] at hlt; omega)
theorem quiet_again {P : Program} {f : FuncId} {args : Array Value} {w : World} {a n : Nat} {v : Value}
    (h : Calls P f args (w.drewN (a + n)) fun e w' => e = .returned v ∧ w' = w.drewN (a + n)) :
    Calls P f args (w.drewN (a + n)) fun e w'' => e = .returned v ∧ ∃ m, w'' = w.drewN (a + m) :=
  h.mono fun _ _ ⟨he, hm⟩ => ⟨he, n, hm⟩
def signsV : Row := [44, 59, 58, 34]
def plainV (c : UInt8) : Bool := !signsV.contains c
def strOf (l : Row) : Ending := .returned (.string ⟨l.toArray⟩)

set_option maxHeartbeats 8000000 in
set_option maxRecDepth 100000 in
theorem scPlain (b : Nat) (s : ByteArray) (k x : Nat) (w : World) (h : Sc b s k x w) (hk : k ≤ s.size) (hs : s.size ≤ 4611686018427387904) (hq : ∀ h : k < s.size, s[k]'h ≠ 34) :
    Calls Tryz.prog 54 #[.pointer (some ⟨b, 0, none⟩)] w fun e w' => e = strOf (mean ((s.data.toList.drop k).take (plen plainV (s.data.toList.drop k)))) ∧ Sc b s (k + plen plainV (s.data.toList.drop k)) x w' ∧ w.grownBy w' (some b) := by
  have hN : ∀ A, k ≤ A → A ≤ s.size → (∀ i, k ≤ i → i < A → plainV (s.data.toList.getD i 0) = true) → (A < s.size → plainV (s.data.toList.getD A 0) = false) → plen plainV (s.data.toList.drop k) = A - k := fun A h1 h2 h3 h4 => plen_drop plainV s k A h1 h2 h3 h4
  generalize plen plainV (s.data.toList.drop k) = n at hN ⊢
  have hN' := Lib.hid hN
  obtain ⟨c0, c1, c2, f1, f2⟩ := h.cells
  have h' := Lib.hid h
  clear hN h
  go_enter Tryz.func54, Tryz.ntmps54
  go_wp2
  have hc0 : (∃ h : k < s.size, (((s[k]'h).toNat : Int) == 34) = false) ∨ decide (k < s.size) = false := by
    by_cases hlt0 : k < s.size
    · exact .inl ⟨hlt0, byte_ne _ 34 (hq hlt0)⟩
    · exact .inr (decide_eq_false hlt0)
  rcases hc0 with ⟨hlt0, hv⟩ | dl
  all_goals
    go_quiet (fail)
    go_wp2
    clear c0 c1 c2 f1 f2
    go_loopw [] (fun wr => ∃ A : Nat, k ≤ A ∧ A ≤ s.size ∧ Hid (Sc b s A x wr) ∧ w.grownBy wr (some b) ∧ ∀ i, k ≤ i → i < A → plainV (s.data.toList.getD i 0) = true) (fun wr => s.size - atOf b wr)
    case atStart => exact ⟨k, Nat.le_refl _, hk, Lib.hid (h'.out.drewN _), gr_drewN (World.grownBy.refl w _) _, fun i h1 h2 => by omega⟩
    case round =>
      obtain ⟨A, hkA, hA, hsc, hg, hall⟩ := hrel
      have hall' := Lib.hid hall
      have hat := Lib.hid (atOf_is hsc.out)
      obtain ⟨c0, c1, c2, f1, f2⟩ := hsc.out.cells
      clear hall
      by_cases hlt : A < s.size
      · obtain ⟨B, hB⟩ : ∃ B, A + 1 = B := ⟨_, rfl⟩
        have hod := one_data s A hlt
        rw [hB] at hod
        obtain ⟨b1, hb1⟩ : ∃ b1, s.extract A B = b1 := ⟨_, rfl⟩
        rw [hb1] at hod
        have hAI : (A : Int) + 1 = (B : Int) := by omega
        have j1 : (A : Int) ≤ (B : Int) := by omega
        have j2 : (B : Int) ≤ (s.size : Int) := by omega
        have j3 : (0 : Int) ≤ (A : Int) := by omega
        have j4 : ¬ (B : Int) < (A : Int) := by omega
        have j5 : ¬ (s.size : Int) < (B : Int) := by omega
        have j6 : B ≤ s.size := by omega
        have j7 : A < B := by omega
        have hwB : IntKind.i64.wrap (B : Int) = (B : Int) := Go.IntWalk.i64_in _ ⟨by omega, by omega⟩
        have hb1s : b1.size ≤ 1 := by rw [Lib.size_eq, hod]; exact Nat.le_refl _
        have cH : ∀ W v, signsV.contains (s[A]'hlt) = v → Calls Tryz.prog 51 #[.string b1, .string ⟨#[44, 59, 58, 34]⟩] W fun e w' => e = .returned (.bool v) ∧ ∃ m, w' = W.drewN m := fun W v hv => by
          have := refHas_any b1 ⟨#[44, 59, 58, 34]⟩ W (by omega) (by decide)
          have e0 : (ByteArray.mk #[44, 59, 58, 34]).data.toList = signsV := rfl
          rw [hod, hasB_one, e0, hv] at this
          exact this
        have hpl : plainV (s.data.toList.getD A 0) = !signsV.contains (s[A]'hlt) := by rw [data_at s A hlt]; rfl
        cases hc : signsV.contains (s[A]'hlt)
        · have cH1 := fun W => cH W false hc
          have hnext : ∀ i, k ≤ i → i < A + 1 → plainV (s.data.toList.getD i 0) = true := fun i h1 h2 => by
            rcases Nat.lt_succ_iff_lt_or_eq.1 h2 with h | h
            · exact hall'.out i h1 h
            · rw [h, hpl, hc]; rfl
          have hnext' := Lib.hid hnext
          have hB' := Lib.hid hB
          clear hod hb1s cH hpl hc hnext
          go_wp2
          go_quiet ((go_at_call 51; exact quiet_add (cH1 _)))
          go_wp2
          have hs2 : ∀ q, Sc b s (A + 1) x ((wr.drewN q).setCell ⟨b, 1, none⟩ (.int .i64 ((A + 1 : Nat) : Int))) := fun q => (hsc.out.drewN q).at_
          rw [hB'.out] at hs2
          go_roundw
          case rel => exact ⟨B, by omega, by omega, Lib.hid (hs2 _), gr_set (gr_drewN hg _) _, by rw [← hB'.out]; exact hnext'.out⟩
          case measure =>
            rw [hat.out]
            show s.size - atOf b ((wr.drewN _).setCell ⟨b, 1, none⟩ (.int .i64 (B : Int))) < s.size - A
            rw [atOf_is (hs2 _)]
            omega
        · have cH1 := fun W => cH W true hc
          have hstop : A < s.size → plainV (s.data.toList.getD A 0) = false := fun _ => by rw [hpl, hc]; rfl
          have hn : n = A - k := hN'.out A hkA hA hall'.out hstop
          have hfin : ∀ W, Sc b s A x W → w.grownBy W (some b) → (strOf (mean (s.extract k A).data.toList) = strOf (mean ((s.data.toList.drop k).take n)) ∧ Sc b s (k + n) x W ∧ w.grownBy W (some b)) := fun W h1 h2 => ⟨by rw [Lib.extract_data, hn], by rw [show k + n = A by omega]; exact h1, h2⟩
          have hfin' := Lib.hid hfin
          have i1 : (k : Int) ≤ (A : Int) := by omega
          have i2 : (A : Int) ≤ (s.size : Int) := by omega
          have i3 : ¬ (A : Int) < (k : Int) := by omega
          have i4 : ¬ (s.size : Int) < (A : Int) := by omega
          have i5 : (0 : Int) ≤ (k : Int) := by omega
          have cM : ∀ W, Calls Tryz.prog 83 #[.string (s.extract k A)] W fun e w' => e = .returned (.string ⟨(mean (s.extract k A).data.toList).toArray⟩) ∧ w' = W := fun W => (refMeant_any (s.extract k A) W (by rw [Lib.size_eq, Lib.extract_data, List.length_take]; omega)).mono fun e w' ⟨h1, h2⟩ => ⟨h1, h2.symm⟩
          clear hod hb1s cH hpl hc hstop hn hfin
          go_wp2
          go_quiet ((go_at_call 51; exact quiet_add (cH1 _)))
          go_wp2
          go_quiet ((go_at_call 83; first | exact Calls.quiet_of_same (cM _) | exact quiet_again (cM _)))
          go_wp2
          go_ret
          exact hfin'.out _ hsc.out (gr_drewN (gr_drewN hg _) _)
      · have dl1 : decide (A < s.size) = false := decide_eq_false hlt
        have hn : n = A - k := hN'.out A hkA hA hall'.out (fun h => absurd h hlt)
        have hfin : ∀ W, Sc b s A x W → w.grownBy W (some b) → (strOf (mean (s.extract k A).data.toList) = strOf (mean ((s.data.toList.drop k).take n)) ∧ Sc b s (k + n) x W ∧ w.grownBy W (some b)) := fun W h1 h2 => ⟨by rw [Lib.extract_data, hn], by rw [show k + n = A by omega]; exact h1, h2⟩
        have hfin' := Lib.hid hfin
        have i1 : (k : Int) ≤ (A : Int) := by omega
        have i2 : (A : Int) ≤ (s.size : Int) := by omega
        have i3 : ¬ (A : Int) < (k : Int) := by omega
        have i4 : ¬ (s.size : Int) < (A : Int) := by omega
        have i5 : (0 : Int) ≤ (k : Int) := by omega
        have cM : ∀ W, Calls Tryz.prog 83 #[.string (s.extract k A)] W fun e w' => e = .returned (.string ⟨(mean (s.extract k A).data.toList).toArray⟩) ∧ w' = W := fun W => (refMeant_any (s.extract k A) W (by rw [Lib.size_eq, Lib.extract_data, List.length_take]; omega)).mono fun e w' ⟨h1, h2⟩ => ⟨h1, h2.symm⟩
        clear hn hfin
        go_wp2
        go_quiet (fail)
        go_wp2
        go_quiet ((go_at_call 83; first | exact Calls.quiet_of_same (cM _) | exact quiet_again (cM _)))
        go_wp2
        go_ret
        exact hfin'.out _ hsc.out (gr_drewN (gr_drewN hg _) _)

/-
  THE WALK OF THE REFERENCE's (*Scan).value: A VALUE IN QUOTES; AND THE TWO TOGETHER.
-/
end Go.Proofs.YthnnpnlapjlnoaaGreatDoor.Li
set_option linter.unusedVariables false
namespace Go.Proofs.YthnnpnlapjlnoaaGreatDoor.Li
open Go.Lib Go.RowKit

def notQ (c : UInt8) : Bool := !(c == 34)
/-- a value in quotes at k (the quote stands at k) -/
def QuoteP (b : Nat) (w : World) (s : ByteArray) (k x : Nat) (e : Ending) (w' : World) : Prop :=
  ((k + 1 + plen notQ (s.data.toList.drop (k + 1)) < s.size ∧ e = strOf (mean ((s.data.toList.drop (k + 1)).take (plen notQ (s.data.toList.drop (k + 1))))) ∧ Sc b s (k + 1 + plen notQ (s.data.toList.drop (k + 1)) + 1) x w') ∨
   (k + 1 + plen notQ (s.data.toList.drop (k + 1)) = s.size ∧ e = strOf [] ∧ Sc b s s.size (bad31 x) w')) ∧ w.grownBy w' (some b)

set_option maxHeartbeats 8000000 in
set_option maxRecDepth 100000 in
theorem scQuoted (b : Nat) (s : ByteArray) (k x : Nat) (w : World) (h : Sc b s k x w) (hlt0 : k < s.size) (hs : s.size ≤ 4611686018427387904) (hq : s[k]'hlt0 = 34) :
    Calls Tryz.prog 54 #[.pointer (some ⟨b, 0, none⟩)] w fun e w' => QuoteP b w s k x e w' := by
  have hN : ∀ A, k + 1 ≤ A → A ≤ s.size → (∀ i, k + 1 ≤ i → i < A → notQ (s.data.toList.getD i 0) = true) → (A < s.size → notQ (s.data.toList.getD A 0) = false) → plen notQ (s.data.toList.drop (k + 1)) = A - (k + 1) := fun A h1 h2 h3 h4 => plen_drop notQ s (k + 1) A h1 h2 h3 h4
  unfold QuoteP
  generalize plen notQ (s.data.toList.drop (k + 1)) = n at hN ⊢
  have hN' := Lib.hid hN
  obtain ⟨c0, c1, c2, f1, f2⟩ := h.cells
  have h' := Lib.hid h
  have hv : (((s[k]'hlt0).toNat : Int) == 34) = true := byte_eq _ 34 hq
  obtain ⟨K, hK⟩ : ∃ K, k + 1 = K := ⟨_, rfl⟩
  have hKI : (k : Int) + 1 = (K : Int) := by omega
  have hwK : IntKind.i64.wrap (K : Int) = (K : Int) := Go.IntWalk.i64_in _ ⟨by omega, by omega⟩
  have hKs : K ≤ s.size := by omega
  have hset : ∀ q, Sc b s K x ((w.drewN q).setCell ⟨b, 1, none⟩ (.int .i64 (K : Int))) := fun q => (h'.out.drewN q).at_
  rw [hK] at hN' ⊢
  have hK' := Lib.hid hK
  clear hN h hK
  go_enter Tryz.func54, Tryz.ntmps54
  go_wp2
  go_quiet (fail)
  go_wp2
  clear c0 c1 c2 f1 f2
  go_loopw [] (fun wr => ∃ A : Nat, K ≤ A ∧ A ≤ s.size ∧ Hid (Sc b s A x wr) ∧ w.grownBy wr (some b) ∧ ∀ i, K ≤ i → i < A → notQ (s.data.toList.getD i 0) = true) (fun wr => s.size - atOf b wr)
  case atStart => exact ⟨K, Nat.le_refl _, hKs, Lib.hid (hset _), gr_set (gr_drewN (World.grownBy.refl w _) _) _, fun i h1 h2 => by omega⟩
  case round =>
    obtain ⟨A, hkA, hA, hsc, hg, hall⟩ := hrel
    have hall' := Lib.hid hall
    have hat := Lib.hid (atOf_is hsc.out)
    obtain ⟨c0, c1, c2, f1, f2⟩ := hsc.out.cells
    clear hall hset
    by_cases hlt : A < s.size
    · obtain ⟨B, hB⟩ : ∃ B, A + 1 = B := ⟨_, rfl⟩
      have hAI : (A : Int) + 1 = (B : Int) := by omega
      have hwB : IntKind.i64.wrap (B : Int) = (B : Int) := Go.IntWalk.i64_in _ ⟨by omega, by omega⟩
      have hs2 : ∀ q, Sc b s B x ((wr.drewN q).setCell ⟨b, 1, none⟩ (.int .i64 (B : Int))) := fun q => (hsc.out.drewN q).at_
      have hpl : notQ (s.data.toList.getD A 0) = !((s[A]'hlt) == 34) := by rw [data_at s A hlt]; rfl
      by_cases hc : s[A]'hlt = 34
      · have hne : (((s[A]'hlt).toNat : Int) == 34) = true := byte_eq _ 34 hc
        have hstop : A < s.size → notQ (s.data.toList.getD A 0) = false := fun _ => by rw [hpl, hc]; rfl
        have hn : n = A - K := hN'.out A hkA hA hall'.out hstop
        have hfin : ∀ W, Sc b s B x W → w.grownBy W (some b) → (((K + n < s.size ∧ strOf (mean (s.extract K A).data.toList) = strOf (mean ((s.data.toList.drop K).take n)) ∧ Sc b s (K + n + 1) x W) ∨ (K + n = s.size ∧ strOf (mean (s.extract K A).data.toList) = strOf [] ∧ Sc b s s.size (bad31 x) W)) ∧ w.grownBy W (some b)) := fun W h1 h2 => ⟨.inl ⟨by omega, by rw [Lib.extract_data, hn], by rw [show K + n + 1 = B by omega]; exact h1⟩, h2⟩
        have hfin' := Lib.hid hfin
        have hBA : (B : Int) - 1 = (A : Int) := by omega
        have hwA : IntKind.i64.wrap (A : Int) = (A : Int) := Go.IntWalk.i64_in _ ⟨by omega, by omega⟩
        have dne : ((A : Int) == (s.size : Int)) = false := beq_eq_false_iff_ne.2 (by omega)
        have i1 : (K : Int) ≤ (A : Int) := by omega
        have i2 : (A : Int) ≤ (s.size : Int) := by omega
        have i3 : ¬ (A : Int) < (K : Int) := by omega
        have i4 : ¬ (s.size : Int) < (A : Int) := by omega
        have i5 : (0 : Int) ≤ (K : Int) := by omega
        have cM : ∀ W, Calls Tryz.prog 83 #[.string (s.extract K A)] W fun e w' => e = .returned (.string ⟨(mean (s.extract K A).data.toList).toArray⟩) ∧ w' = W := fun W => (refMeant_any (s.extract K A) W (by rw [Lib.size_eq, Lib.extract_data, List.length_take]; omega)).mono fun e w' ⟨h1, h2⟩ => ⟨h1, h2.symm⟩
        clear hpl hc hstop hn hfin hB
        go_wp2
        go_quiet (fail)
        go_wp2
        go_quiet (fail)
        go_wp2
        go_quiet ((go_at_call 83; first | exact Calls.quiet_of_same (cM _) | exact quiet_again (cM _)))
        go_wp2
        go_ret
        exact hfin'.out _ (hs2 _) (gr_drewN (gr_set (gr_drewN hg _) _) _)
      · have hne : (((s[A]'hlt).toNat : Int) == 34) = false := byte_ne _ 34 hc
        have hnext : ∀ i, K ≤ i → i < B → notQ (s.data.toList.getD i 0) = true := fun i h1 h2 => by
          rcases Nat.lt_succ_iff_lt_or_eq.1 (show i < A + 1 by omega) with h | h
          · exact hall'.out i h1 h
          · rw [h, hpl]; simp [hc]
        have hnext' := Lib.hid hnext
        have hkB : K ≤ B := by omega
        have hBs : B ≤ s.size := by omega
        have hAB : s.size - B < s.size - A := by omega
        clear hpl hc hnext hB
        go_wp2
        go_quiet (fail)
        go_wp2
        go_roundw
        case rel => exact ⟨B, hkB, hBs, Lib.hid (hs2 _), gr_set (gr_drewN hg _) _, hnext'.out⟩
        case measure =>
          rw [hat.out]
          show s.size - atOf b ((wr.drewN _).setCell ⟨b, 1, none⟩ (.int .i64 (B : Int))) < s.size - A
          rw [atOf_is (hs2 _)]
          exact hAB
    · have hAe : A = s.size := by omega
      have dl1 : decide (A < s.size) = false := decide_eq_false hlt
      have hn : n = A - K := hN'.out A hkA hA hall'.out (fun h => absurd h hlt)
      have hfin : ∀ W y e, e = strOf [] → Sc b s A y W → w.grownBy W (some b) → bad31 x = y → (((K + n < s.size ∧ e = strOf (mean ((s.data.toList.drop K).take n)) ∧ Sc b s (K + n + 1) x W) ∨ (K + n = s.size ∧ e = strOf [] ∧ Sc b s s.size (bad31 x) W)) ∧ w.grownBy W (some b)) := fun W y e h0 h1 h2 h3 => ⟨.inr ⟨by omega, h0, by rw [h3, ← hAe]; exact h1⟩, h2⟩
      have hfin' := Lib.hid hfin
      have dne : ((A : Int) == (s.size : Int)) = true := beq_iff_eq.2 (by omega)
      have hbad : (x = 0 ∧ bad31 x = 31) ∨ (x ≠ 0 ∧ bad31 x = x) := by
        unfold bad31
        by_cases h0 : x = 0
        · exact .inl ⟨h0, if_pos h0⟩
        · exact .inr ⟨h0, if_neg h0⟩
      clear hn hfin
      rcases hbad with ⟨h0, hb⟩ | ⟨h0, hb⟩
      · subst h0
        have hb' := Lib.hid hb
        clear hb
        go_wp2
        go_quiet (fail)
        go_wp2
        go_quiet (fail)
        go_wp2
        go_ret
        exact hfin'.out _ 31 _ rfl ((hsc.out.drewN _).bad_) (gr_set (gr_drewN hg _) _) hb'.out
      · have dx : ((x : Int) == 0) = false := beq_eq_false_iff_ne.2 (by omega)
        have hb' := Lib.hid hb
        clear hb h0
        go_wp2
        go_quiet (fail)
        go_wp2
        go_quiet (fail)
        go_wp2
        go_ret
        exact hfin'.out _ x _ rfl (hsc.out.drewN _) (gr_drewN hg _) hb'.out

/-
  HOW THE REFERENCE READS A LINE, STEP BY STEP, IS HOW IT IS READ ('parse'). Nothing of the program is run here.
-/
end Go.Proofs.YthnnpnlapjlnoaaGreatDoor.Li
set_option linter.unusedVariables false
namespace Go.Proofs.YthnnpnlapjlnoaaGreatDoor.Li
open Go.Lib

theorem bad31_ne (x : Nat) : bad31 x ≠ 0 := by unfold bad31; split <;> omega
theorem bad31_le {x : Nat} (h : x ≤ 31) : bad31 x ≤ 31 := by unfold bad31; split <;> omega
theorem badAt_le {x n : Nat} (h : x ≤ 31) : badAt x n ≤ 31 := by unfold badAt; split <;> omega
theorem badAt_of {x n : Nat} (h : x ≠ 0) : badAt x n = x := by unfold badAt; rw [if_neg (fun h' => h h'.1)]
theorem bad31_of {x : Nat} (h : x ≠ 0) : bad31 x = x := by unfold bad31; rw [if_neg h]
/-- the next sign: it, the error, what is behind it -/
def SgR (T t : Row) (x : Nat) (c : UInt8) (x' : Nat) (t' : Row) : Prop :=
  (t.head? = some c ∧ T.contains c = true ∧ x' = x ∧ t' = t.tail) ∨ ((∀ d, t.head? = some d → T.contains d = false) ∧ c = 0 ∧ x' = bad31 x ∧ t' = t)
/-- the next value: it, the error, what is behind it -/
def VlR (t : Row) (x : Nat) (v : Row) (x' : Nat) (t' : Row) : Prop :=
  (t.head? ≠ some 34 ∧ v = mean (t.take (plen plainV t)) ∧ x' = x ∧ t' = t.drop (plen plainV t)) ∨
  (t.head? = some 34 ∧ plen notQ t.tail < t.tail.length ∧ v = mean (t.tail.take (plen notQ t.tail)) ∧ x' = x ∧ t' = t.tail.drop (plen notQ t.tail + 1)) ∨
  (t.head? = some 34 ∧ plen notQ t.tail = t.tail.length ∧ v = [] ∧ x' = bad31 x ∧ t' = [])
theorem sg_in {T t t' : Row} {x : Nat} {c : UInt8} (h : SgR T t x c 0 t') : T.contains c = true ∧ x = 0 ∧ t = c :: t' := by
  rcases h with ⟨h1, h2, h3, h4⟩ | ⟨_, _, h3, _⟩
  · exact ⟨h2, h3.symm, by rw [h4]; exact head_eq h1⟩
  · exact absurd h3.symm (bad31_ne x)
theorem sg_bad {T t t' : Row} {x x' : Nat} {c : UInt8} (h : SgR T t x c x' t') (hx : x ≠ 0) : x' = x := by
  rcases h with ⟨_, _, h3, _⟩ | ⟨_, _, h3, _⟩
  · exact h3
  · rw [h3, bad31_of hx]
theorem sg_no {T t t' : Row} {x' : Nat} {c : UInt8} (h : SgR T t 0 c x' t') (hx : x' ≠ 0) : x' = 31 ∧ ∀ d, t.head? = some d → T.contains d = false := by
  rcases h with ⟨_, _, h3, _⟩ | ⟨h1, _, h3, _⟩
  · exact absurd h3 hx
  · exact ⟨h3, h1⟩
theorem vl_bad {t v t' : Row} {x x' : Nat} (h : VlR t x v x' t') (hx : x ≠ 0) : x' = x := by
  rcases h with ⟨_, _, h, _⟩ | ⟨_, _, _, h, _⟩ | ⟨_, _, _, h, _⟩
  · exact h
  · exact h
  · rw [h, bad31_of hx]
theorem plainV_sep (c : UInt8) : plainV c = !sepB c := Ch.byte_all (P := fun c => plainV c = !sepB c) (by decide +kernel) c
theorem take_plen (p : UInt8 → Bool) (l : Row) : l.take (plen p l) = l.takeWhile p := (List.prefix_iff_eq_take.1 (List.takeWhile_prefix p)).symm
theorem drop_plen (p : UInt8 → Bool) (l : Row) : l.drop (plen p l) = l.dropWhile p := by
  have h := List.takeWhile_append_dropWhile (p := p) (l := l)
  have h2 := List.take_append_drop (plen p l) l
  rw [take_plen] at h2
  exact List.append_cancel_left (h2.trans h.symm)
theorem cut1_plen : ∀ l : Row, cut1 34 l = if plen notQ l < l.length then some (l.take (plen notQ l), l.drop (plen notQ l + 1)) else none
  | [] => rfl
  | x :: r => by
    have ih := cut1_plen r
    by_cases hx : x = 34
    · subst hx
      simp [cut1, plen, notQ]
    · have hq : notQ x = true := by unfold notQ; simpa using hx
      have hp : plen notQ (x :: r) = plen notQ r + 1 := by unfold plen; simp [hq]
      rw [cut1, if_neg hx, ih, hp]
      by_cases hlt : plen notQ r < r.length
      · rw [if_pos hlt, if_pos (by simpa using hlt)]
        simp
      · rw [if_neg hlt, if_neg (by simpa using hlt)]
        rfl
theorem vl_some {t v t' : Row} (h : VlR t 0 v 0 t') : ∃ a, rawC t = some (a, t') ∧ v = mean a := by
  rcases h with ⟨h1, h2, _, h4⟩ | ⟨h1, h2, h3, _, h5⟩ | ⟨_, _, _, h, _⟩
  · refine ⟨_, ?_, h2⟩
    have e : (fun b => !sepB b) = plainV := funext fun c => (plainV_sep c).symm
    unfold rawC
    rw [if_neg h1, e, take_plen, h4, drop_plen]
  · refine ⟨_, ?_, h3⟩
    unfold rawC
    rw [if_pos h1, cut1_plen, if_pos h2, h5]
  · exact absurd h.symm (bad31_ne 0)
theorem vl_none {t v t' : Row} {x' : Nat} (h : VlR t 0 v x' t') (hx : x' ≠ 0) : x' = 31 ∧ rawC t = none := by
  rcases h with ⟨_, _, h, _⟩ | ⟨_, _, _, h, _⟩ | ⟨h1, h2, _, h, _⟩
  · exact absurd h hx
  · exact absurd h hx
  · refine ⟨h, ?_⟩
    unfold rawC
    rw [if_pos h1, cut1_plen, if_neg (by omega)]

/-! ### what will be answered -/
def Out (g n : Row) (acc : List PD) (x : Nat) (c : UInt8) (t : Row) : LR := if x = 0 then fin g n acc (c :: t) else .bad x
def OutV (g n : Row) (acc : List PD) (m : Row) (vs : List Row) (x : Nat) (c : UInt8) (t : Row) : LR :=
  if x = 0 then (if c = 61 ∨ c = 44 then (match vals t with | none => .bad 31 | some (us, r) => fin g n (acc ++ [⟨m, vs ++ us⟩]) r) else fin g n (acc ++ [⟨m, vs⟩]) (c :: t)) else .bad x
theorem out_bad {g n : Row} {acc : List PD} {x : Nat} {c : UInt8} {t : Row} (h : x ≠ 0) : Out g n acc x c t = .bad x := if_neg h
theorem out_ok {g n : Row} {acc : List PD} {t : Row} : Out g n acc 0 58 t = .ok ⟨g, n, acc, t⟩ := by
  unfold Out
  rw [if_pos rfl, fin_end (by simp)]
  rfl
theorem outv_bad {g n : Row} {acc : List PD} {m : Row} {vs : List Row} {x : Nat} {c : UInt8} {t : Row} (h : x ≠ 0) : OutV g n acc m vs x c t = .bad x := if_neg h
theorem outv_end {g n : Row} {acc : List PD} {m : Row} {vs : List Row} {x : Nat} {c : UInt8} {t : Row} (h : ¬ (c = 61 ∨ c = 44)) : OutV g n acc m vs x c t = Out g n (acc ++ [⟨m, vs⟩]) x c t := by
  unfold OutV Out
  rw [if_neg h]
theorem name_bad {t : Row} (h : badAt 0 (nlen t) ≠ 0) : badAt 0 (nlen t) = 30 ∧ nameC t = none := by
  unfold badAt at h ⊢
  split at h
  · rename_i hc
    rw [if_pos hc]
    refine ⟨rfl, ?_⟩
    unfold nameC
    rw [if_pos (by omega)]
  · exact absurd rfl h
theorem name_ok {t : Row} (h : badAt 0 (nlen t) = 0) : nameC t = some (t.take (nlen t), t.drop (nlen t)) := by
  unfold badAt at h
  split at h
  · cases h
  · rename_i hc
    unfold nameC
    rw [if_neg (by omega)]
theorem out_param {g n : Row} {acc : List PD} {t t' : Row} {c : UInt8} {x' : Nat} (h : SgR [61] (t.drop (nlen t)) (badAt 0 (nlen t)) c x' t') :
    Out g n acc 0 59 t = OutV g n acc (t.take (nlen t)) [] x' c t' := by
  have hO : Out g n acc 0 59 t = fin g n acc (59 :: t) := if_pos rfl
  rw [hO]
  by_cases h0 : badAt 0 (nlen t) = 0
  · have hn := name_ok h0
    rw [h0] at h
    by_cases hx : x' = 0
    · subst hx
      obtain ⟨h1, _, h2⟩ := sg_in h
      obtain rfl : c = 61 := by simpa using h1
      unfold OutV
      rw [if_pos rfl, if_pos (.inl rfl)]
      have h61 : (t.drop (nlen t)).head? = some 61 := by rw [h2]; rfl
      have htl : (t.drop (nlen t)).tail = t' := by rw [h2]; rfl
      cases hv : vals t' with
      | none => rw [fin_bad3 (l := 59 :: t) (m := t.take (nlen t)) (r := t.drop (nlen t)) rfl hn h61 (by rw [htl]; exact hv)]
      | some p =>
        obtain ⟨us, r⟩ := p
        rw [fin_more (l := 59 :: t) (m := t.take (nlen t)) (r := t.drop (nlen t)) (r2 := r) (vs := us) rfl hn h61 (by rw [htl]; exact hv)]
        rfl
    · obtain ⟨rfl, h1⟩ := sg_no h hx
      rw [outv_bad (by omega), fin_bad2 (l := 59 :: t) (m := t.take (nlen t)) (r := t.drop (nlen t)) rfl hn]
      intro e
      have := h1 _ e
      revert this; decide
  · obtain ⟨h30, hn⟩ := name_bad h0
    rw [h30] at h
    have hx := sg_bad h (by omega)
    rw [outv_bad (by omega), hx, fin_bad1 (l := 59 :: t) rfl hn]
theorem outv_value {g n : Row} {acc : List PD} {m : Row} {vs : List Row} {x x1 x2 : Nat} {c d : UInt8} {t t1 t2 v : Row} (hc : c = 61 ∨ c = 44) (h1 : VlR t x v x1 t1) (h2 : SgR [44, 59, 58] t1 x1 d x2 t2) :
    OutV g n acc m vs x c t = OutV g n acc m (vs ++ [v]) x2 d t2 := by
  by_cases hx : x = 0
  · subst hx
    have hO : OutV g n acc m vs 0 c t = (match vals t with | none => .bad 31 | some (us, r) => fin g n (acc ++ [⟨m, vs ++ us⟩]) r) := by unfold OutV; rw [if_pos rfl, if_pos hc]
    rw [hO]
    by_cases hx1 : x1 = 0
    · subst hx1
      obtain ⟨a, ha, rfl⟩ := vl_some h1
      by_cases hx2 : x2 = 0
      · subst hx2
        obtain ⟨h3, _, rfl⟩ := sg_in h2
        by_cases h44 : d = 44
        · subst h44
          rw [vals_more ha rfl, List.tail_cons]
          unfold OutV
          rw [if_pos rfl, if_pos (.inr rfl)]
          cases vals t2 with
          | none => rfl
          | some p => simp
        · have hd : ¬ (d = 61 ∨ d = 44) := by
            rintro (rfl | rfl)
            · revert h3; decide
            · exact h44 rfl
          rw [vals_last ha (by simpa using h44)]
          unfold OutV
          rw [if_pos rfl, if_neg hd]
      · obtain ⟨rfl, h3⟩ := sg_no h2 hx2
        have hne : ∀ y : UInt8, [44, 59, 58].contains y = true → t1.head? ≠ some y := fun y hy e => by rw [h3 y e] at hy; cases hy
        rw [vals_last ha (hne 44 (by decide)), outv_bad (by omega)]
        show fin g n (acc ++ [⟨m, vs ++ [mean a]⟩]) t1 = _
        rw [fin_end (hne 59 (by decide)), if_neg (hne 58 (by decide))]
    · obtain ⟨rfl, hr⟩ := vl_none h1 hx1
      have := sg_bad h2 (by omega)
      rw [vals_none hr, outv_bad (by omega), this]
  · have e1 := vl_bad h1 hx
    rw [e1] at h2
    have e2 := sg_bad h2 hx
    rw [outv_bad hx, outv_bad (by omega), e2]
theorem out_start {s t : Row} {c : UInt8} {x : Nat} (hT : Ch.valid s = true ∧ ends s = false) (h : SgR [46, 59, 58] (s.drop (nlen s)) (badAt 0 (nlen s)) c x t) (hc : c ≠ 46) :
    parse s = Out [] (s.take (nlen s)) [] x c t := by
  by_cases h0 : badAt 0 (nlen s) = 0
  · have hn := name_ok h0
    rw [h0] at h
    have hN : (s.drop (nlen s)).head? ≠ some 46 → namesC s = some ([], s.take (nlen s), s.drop (nlen s)) := fun h46 => by
      unfold namesC; rw [hn]; dsimp only; rw [if_neg h46]
    by_cases hx : x = 0
    · subst hx
      obtain ⟨h1, _, h2⟩ := sg_in h
      rw [parse_fin hT (hN (by rw [h2]; simpa using hc)), h2]
      rfl
    · obtain ⟨rfl, h3⟩ := sg_no h hx
      have hne : ∀ y : UInt8, [46, 59, 58].contains y = true → (s.drop (nlen s)).head? ≠ some y := fun y hy e => by rw [h3 y e] at hy; cases hy
      rw [parse_fin hT (hN (hne 46 (by decide))), out_bad (by omega), fin_end (hne 59 (by decide)), if_neg (hne 58 (by decide))]
  · obtain ⟨h30, hn⟩ := name_bad h0
    rw [h30] at h
    have hx := sg_bad h (by omega)
    rw [out_bad (by omega), hx, parse_name hT (by unfold namesC; rw [hn])]
theorem out_group {s t u : Row} {d : UInt8} {x y : Nat} (hT : Ch.valid s = true ∧ ends s = false) (h : SgR [46, 59, 58] (s.drop (nlen s)) (badAt 0 (nlen s)) 46 x t) (h2 : SgR [59, 58] (t.drop (nlen t)) (badAt x (nlen t)) d y u) :
    parse s = Out (s.take (nlen s)) (t.take (nlen t)) [] y d u := by
  by_cases h0 : badAt 0 (nlen s) = 0
  · have hn := name_ok h0
    rw [h0] at h
    have hx : x = 0 ∧ s.drop (nlen s) = 46 :: t := by
      rcases h with ⟨h1, _, h3, h4⟩ | ⟨_, h3, _, _⟩
      · exact ⟨h3, by rw [h4]; exact head_eq h1⟩
      · cases h3
    obtain ⟨rfl, hd⟩ := hx
    have hN : namesC s = (nameC t).map fun p => (s.take (nlen s), p.1, p.2) := by
      unfold namesC; rw [hn]; dsimp only; rw [hd]; rfl
    by_cases h00 : badAt 0 (nlen t) = 0
    · have hn2 := name_ok h00
      rw [h00] at h2
      rw [hn2] at hN
      rw [parse_fin hT hN]
      by_cases hy : y = 0
      · subst hy
        obtain ⟨_, _, h5⟩ := sg_in h2
        show fin _ _ [] (t.drop (nlen t)) = _
        rw [h5]; rfl
      · obtain ⟨rfl, h3⟩ := sg_no h2 hy
        have hne : ∀ y : UInt8, [59, 58].contains y = true → (t.drop (nlen t)).head? ≠ some y := fun y hy e => by rw [h3 y e] at hy; cases hy
        show fin _ _ [] (t.drop (nlen t)) = _
        rw [out_bad (by omega), fin_end (hne 59 (by decide)), if_neg (hne 58 (by decide))]
    · obtain ⟨h30, hn2⟩ := name_bad h00
      rw [h30] at h2
      have hy := sg_bad h2 (by omega)
      rw [out_bad (by omega), hy, parse_name hT (by rw [hN, hn2]; rfl)]
  · obtain ⟨h30, hn⟩ := name_bad h0
    rw [h30] at h
    have hx := sg_bad h (by omega)
    rw [hx, badAt_of (by omega)] at h2
    have hy := sg_bad h2 (by omega)
    rw [out_bad (by omega), hy, parse_name hT (by unfold namesC; rw [hn])]
end Go.Proofs.YthnnpnlapjlnoaaGreatDoor.Li

/-
  WHAT THE REFERENCE's SCANNER ANSWERS, IN THE WORDS OF XLineStep; HOW THE CALLER'S MEMORY STANDS BEHIND IT.
-/
set_option linter.unusedVariables false
namespace Go.Proofs.YthnnpnlapjlnoaaGreatDoor.Li
open Go.Lib Go.RowKit Bu

def NamP (b : Nat) (s : ByteArray) (k x : Nat) (w : World) (e : Ending) (w' : World) : Prop :=
  ∃ (n : ByteArray) (k' : Nat), e = .returned (.string n) ∧ n.data.toList = (s.data.toList.drop k).take (nlen (s.data.toList.drop k)) ∧ Sc b s k' (badAt x (nlen (s.data.toList.drop k))) w' ∧
    s.data.toList.drop k' = (s.data.toList.drop k).drop (nlen (s.data.toList.drop k)) ∧ k ≤ k' ∧ k' ≤ s.size ∧ w.grownBy w' (some b)
def SigP (b : Nat) (s t : ByteArray) (k x : Nat) (w : World) (e : Ending) (w' : World) : Prop :=
  ∃ (c : UInt8) (k' x' : Nat), e = .returned (.int .u8 (c.toNat : Int)) ∧ Sc b s k' x' w' ∧ SgR t.data.toList (s.data.toList.drop k) x c x' (s.data.toList.drop k') ∧
    x' ≤ 31 ∧ k ≤ k' ∧ k' ≤ s.size ∧ (k' = k + 1 ∨ c = 0) ∧ w.grownBy w' (some b)
def ValP (b : Nat) (s : ByteArray) (k x : Nat) (w : World) (e : Ending) (w' : World) : Prop :=
  ∃ (v : ByteArray) (k' x' : Nat), e = .returned (.string v) ∧ Sc b s k' x' w' ∧ VlR (s.data.toList.drop k) x v.data.toList x' (s.data.toList.drop k') ∧
    x' ≤ 31 ∧ k ≤ k' ∧ k' ≤ s.size ∧ w.grownBy w' (some b)
theorem nam_any (b : Nat) (s : ByteArray) (k x : Nat) (w : World) (h : Sc b s k x w) (hk : k ≤ s.size) (hs : s.size ≤ 4611686018427387904) (hx : x ≤ 31) :
    Calls Tryz.prog 52 #[.pointer (some ⟨b, 0, none⟩)] w fun e w' => NamP b s k x w e w' := by
  have hn := nlen_le (s.data.toList.drop k)
  rw [List.length_drop, ← Lib.size_eq] at hn
  refine (scName b s k x w h hk hs (by omega)).mono fun e w' ⟨h1, h2, h3⟩ => ⟨_, _, h1, ?_, h2, ?_, by omega, by omega, h3⟩
  · rw [Lib.extract_data, show k + nlen (s.data.toList.drop k) - k = nlen (s.data.toList.drop k) by omega]
  · rw [List.drop_drop]
theorem head_drop (s : ByteArray) (k : Nat) : (s.data.toList.drop k).head? = s.data.toList[k]? := by rw [List.head?_drop]
theorem sig_any (b : Nat) (s t : ByteArray) (k x : Nat) (w : World) (h : Sc b s k x w) (hk : k ≤ s.size) (hs : s.size ≤ 4611686018427387904) (ht : t.size ≤ 100) (hx : x ≤ 31) :
    Calls Tryz.prog 53 #[.pointer (some ⟨b, 0, none⟩), .string t] w fun e w' => SigP b s t k x w e w' := by
  refine (scSign b s t k x w h hk hs ht).mono fun e w' ⟨h1, h3⟩ => ?_
  rcases h1 with ⟨c, h4, h5, h6, h7⟩ | ⟨h4, h6, h7⟩
  · have hlt := (List.getElem?_eq_some_iff.1 h4).1
    rw [← Lib.size_eq] at hlt
    exact ⟨c, k + 1, x, h6, h7, .inl ⟨by rw [head_drop, h4], h5, rfl, by rw [List.tail_drop]⟩, hx, by omega, by omega, .inl rfl, h3⟩
  · exact ⟨0, k, bad31 x, h6, h7, .inr ⟨fun d hd => h4 d (by rw [← head_drop, hd]), rfl, rfl, rfl⟩, bad31_le hx, Nat.le_refl _, hk, .inr rfl, h3⟩
theorem val_any (b : Nat) (s : ByteArray) (k x : Nat) (w : World) (h : Sc b s k x w) (hk : k ≤ s.size) (hs : s.size ≤ 4611686018427387904) (hx : x ≤ 31) :
    Calls Tryz.prog 54 #[.pointer (some ⟨b, 0, none⟩)] w fun e w' => ValP b s k x w e w' := by
  by_cases hq : (s.data.toList.drop k).head? = some 34
  · have h34 := hq
    rw [head_drop] at hq
    have hlt := (List.getElem?_eq_some_iff.1 hq).1
    rw [← Lib.size_eq] at hlt
    have hel : s[k]'hlt = 34 := by
      have := Lib.data_getElem? s k hlt
      rw [hq] at this
      exact (Option.some.inj this).symm
    have htl : (s.data.toList.drop k).tail = s.data.toList.drop (k + 1) := by rw [List.tail_drop]
    have hpl := plen_le notQ (s.data.toList.drop (k + 1))
    rw [List.length_drop, ← Lib.size_eq] at hpl
    refine (scQuoted b s k x w h hlt hs hel).mono fun e w' ⟨h1, h3⟩ => ?_
    rcases h1 with ⟨h4, h5, h6⟩ | ⟨h4, h5, h6⟩
    · refine ⟨⟨(mean ((s.data.toList.drop (k + 1)).take (plen notQ (s.data.toList.drop (k + 1))))).toArray⟩, _, x, h5, h6, .inr (.inl ⟨h34, ?_, ?_, rfl, ?_⟩), hx, by omega, by omega, h3⟩
      · rw [htl, List.length_drop, ← Lib.size_eq]; omega
      · rw [htl]
      · rw [htl, List.drop_drop]; congr 1
    · refine ⟨⟨#[]⟩, _, bad31 x, h5, h6, .inr (.inr ⟨h34, ?_, rfl, rfl, ?_⟩), bad31_le hx, by omega, Nat.le_refl _, h3⟩
      · rw [htl, List.length_drop, ← Lib.size_eq]; omega
      · exact List.drop_of_length_le (by rw [← Lib.size_eq]; exact Nat.le_refl _)
  · have hpl := plen_le plainV (s.data.toList.drop k)
    rw [List.length_drop, ← Lib.size_eq] at hpl
    refine (scPlain b s k x w h hk hs fun hlt e => hq (by rw [head_drop, Lib.data_getElem? s k hlt, e])).mono fun e w' ⟨h1, h2, h3⟩ => ?_
    exact ⟨⟨(mean ((s.data.toList.drop k).take (plen plainV (s.data.toList.drop k)))).toArray⟩, _, x, h1, h2, .inl ⟨hq, rfl, rfl, by rw [List.drop_drop]⟩, hx, by omega, by omega, h3⟩

/-! ### memory -/
theorem ownsRow_far {w w' : World} {B : Nat} {e : TypeId} {size : Nat} {v : Value} {n : Nat} {xs : List Value} (h : w.ownsRow B e size v n xs) (hf : ∀ i, B ≤ i → i < w.heap.size → w'.heap[i]? = w.heap[i]?) : w'.ownsRow B e size v n xs := by
  refine ⟨h.1, ?_⟩
  rcases h.2 with h | ⟨g, cap, cur, e1, e2, e3, e4⟩
  · exact .inl h
  · exact .inr ⟨g, cap, cur, e1, e2, by rw [hf g e2 (Array.getElem?_eq_some_iff.1 e3).1]; exact e3, e4⟩
theorem Own.far {w w' : World} {B : Nat} {v : Value} {ls : List Row} (h : Own B v ls w) (hf : ∀ i, B ≤ i → i < w.heap.size → w'.heap[i]? = w.heap[i]?) : Own B v ls w' := ownsRow_far h hf
theorem POwn.far {w w' : World} {B : Nat} {v : Value} {ps : List PD} (h : POwn B v ps w) (hf : ∀ i, B ≤ i → i < w.heap.size → w'.heap[i]? = w.heap[i]?) : POwn B v ps w' := by
  obtain ⟨vs, h1, h2, h3⟩ := h
  exact ⟨vs, h1, ownsRow_far h2 hf, fun j p u hp hu => (h3 j p u hp hu).far hf⟩
theorem gr_far {w w' : World} {b B : Nat} (h : w.grownBy w' (some b)) (hb : b < B) : ∀ i, B ≤ i → i < w.heap.size → w'.heap[i]? = w.heap[i]? :=
  fun i hi hlt => h.block i hlt (fun e => by have := Option.some.inj e; omega)
theorem gr_alloc {a w : World} {row : Option Nat} (h : a.grownBy w row) (o : Obj) : a.grownBy (w.alloc o) row :=
  ⟨h.os, h.tape, h.output, by have := h.size; simp; omega, fun i hi hne => (Below.heap_alloc w o i (Nat.lt_of_lt_of_le hi h.size)).trans (h.block i hi hne)⟩
theorem gr_store {a w : World} {row : Option Nat} (h : a.grownBy w row) {p : Addr} (hp : a.heap.size ≤ p.block) (u : Value) : a.grownBy (w.setCell p u) row :=
  ⟨h.os, h.tape, h.output, by simpa [World.setCell] using h.size, fun i hi hne => (Below.heap_setCell w p u i (by omega)).trans (h.block i hi hne)⟩
theorem gr_grown {a w w' : World} {row row' : Option Nat} (h : a.grownBy w row) (k : w.grownBy w' row') (hr : ∀ g, row' = some g → a.heap.size ≤ g) : a.grownBy w' row :=
  ⟨k.os.trans h.os, k.tape.trans h.tape, k.output.trans h.output, Nat.le_trans h.size k.size, fun i hi hne => (k.block i (Nat.lt_of_lt_of_le hi h.size) (fun e => by have := hr i e.symm; omega)).trans (h.block i hi hne)⟩
theorem below_gr {a w w' : World} {b B : Nat} (h : Below B a w) (k : w.grownBy w' (some b)) (hb : B ≤ b) (hB : B ≤ w.heap.size) : Below B a w' := h.grown k hB (fun g hg => by have := Option.some.inj hg; omega)
/-- how memory stands while the reference reads: the result's block r, the scanner's Z, the line's Z + 1 -/
structure PS (w : World) (Z : Nat) (s : ByteArray) (k x : Nat) (g n : ByteArray) (pv : Value) (wr : World) : Prop where
  lt : w.heap.size < Z
  below : Below w.heap.size w wr
  res : wr.heap[w.heap.size]? = some (.cells #[.string ⟨#[]⟩, .string ⟨#[]⟩, .slice none 0 0, .string ⟨#[]⟩] 41 (0, 0))
  sc : Sc Z s k x wr
  line : wr.heap[Z + 1]? = some (.cells #[.string g, .string n, pv, .string ⟨#[]⟩] 41 (0, 0))
theorem PS.size {w wr : World} {Z k x : Nat} {s g n : ByteArray} {pv : Value} (h : PS w Z s k x g n pv wr) : Z + 1 < wr.heap.size := (Array.getElem?_eq_some_iff.1 h.line).1
theorem PS.call {w wr w' : World} {Z k x k' x' : Nat} {s g n : ByteArray} {pv : Value} (h : PS w Z s k x g n pv wr) (hg : wr.grownBy w' (some Z)) (hs : Sc Z s k' x' w') : PS w Z s k' x' g n pv w' := by
  have h1 := h.size
  have h2 := h.lt
  refine ⟨h.lt, below_gr h.below hg (by omega) (by omega), ?_, hs, ?_⟩
  · rw [hg.block w.heap.size (by omega) (fun e => by have := Option.some.inj e; omega)]; exact h.res
  · rw [hg.block (Z + 1) h1 (fun e => by have := Option.some.inj e; omega)]; exact h.line
theorem Sc.other {b k x : Nat} {s : ByteArray} {w : World} (h : Sc b s k x w) {p : Addr} (hp : b ≠ p.block) (u : Value) : Sc b s k x (w.setCell p u) := by
  unfold Sc at h ⊢
  rw [Below.heap_setCell w p u b hp]; exact h
theorem PS.kept {w wr : World} {Z k x : Nat} {s g n : ByteArray} {pv : Value} (h : PS w Z s k x g n pv wr) (o : Nat) (u : Value) :
    Below w.heap.size w (wr.setCell ⟨Z + 1, o, none⟩ u) ∧ (wr.setCell ⟨Z + 1, o, none⟩ u).heap[w.heap.size]? = some (.cells #[.string ⟨#[]⟩, .string ⟨#[]⟩, .slice none 0 0, .string ⟨#[]⟩] 41 (0, 0)) ∧ Sc Z s k x (wr.setCell ⟨Z + 1, o, none⟩ u) := by
  have h2 := h.lt
  refine ⟨h.below.setCell (p := ⟨Z + 1, o, none⟩) (by show w.heap.size ≤ Z + 1; omega) u, ?_, h.sc.other (by show Z ≠ Z + 1; omega) u⟩
  rw [Below.heap_setCell _ _ _ _ (by show w.heap.size ≠ Z + 1; omega)]; exact h.res
theorem PS.group {w wr : World} {Z k x : Nat} {s g n : ByteArray} {pv : Value} (h : PS w Z s k x g n pv wr) (g' : ByteArray) : PS w Z s k x g' n pv (wr.setCell ⟨Z + 1, 0, none⟩ (.string g')) :=
  have q := h.kept 0 (.string g')
  ⟨h.lt, q.1, q.2.1, q.2.2, by have := h.line; simp [World.setCell, Array.getElem?_modify, this]⟩
theorem PS.name {w wr : World} {Z k x : Nat} {s g n : ByteArray} {pv : Value} (h : PS w Z s k x g n pv wr) (n' : ByteArray) : PS w Z s k x g n' pv (wr.setCell ⟨Z + 1, 1, none⟩ (.string n')) :=
  have q := h.kept 1 (.string n')
  ⟨h.lt, q.1, q.2.1, q.2.2, by have := h.line; simp [World.setCell, Array.getElem?_modify, this]⟩
theorem PS.prms {w wr : World} {Z k x : Nat} {s g n : ByteArray} {pv : Value} (h : PS w Z s k x g n pv wr) (pv' : Value) : PS w Z s k x g n pv' (wr.setCell ⟨Z + 1, 2, none⟩ pv') :=
  have q := h.kept 2 pv'
  ⟨h.lt, q.1, q.2.1, q.2.2, by have := h.line; simp [World.setCell, Array.getElem?_modify, this]⟩
theorem blk_grown {w w' : World} {i : Nat} {o : Obj} {row : Option Nat} (h : w.heap[i]? = some o) (hg : w.grownBy w' row) (hne : ∀ g, row = some g → i ≠ g) : w'.heap[i]? = some o := by
  rw [hg.block i (Array.getElem?_eq_some_iff.1 h).1 (fun e => hne i e.symm rfl)]; exact h
theorem blk_alloc {w : World} {i : Nat} {o : Obj} (h : w.heap[i]? = some o) (o' : Obj) : (w.alloc o').heap[i]? = some o := by
  rw [Below.heap_alloc w o' i (Array.getElem?_eq_some_iff.1 h).1]; exact h
theorem blk_store {w : World} {i : Nat} {o : Obj} (h : w.heap[i]? = some o) {p : Addr} (hp : i ≠ p.block) (u : Value) : (w.setCell p u).heap[i]? = some o := by
  rw [Below.heap_setCell w p u i hp]; exact h
theorem PS.alloc {w wr : World} {Z k x : Nat} {s g n : ByteArray} {pv : Value} (h : PS w Z s k x g n pv wr) (o : Obj) : PS w Z s k x g n pv (wr.alloc o) :=
  ⟨h.lt, h.below.alloc h.below.size o, blk_alloc h.res o, blk_alloc h.sc o, blk_alloc h.line o⟩
theorem PS.grown {w wr w' : World} {Z k x : Nat} {s g n : ByteArray} {pv : Value} {row : Option Nat} (h : PS w Z s k x g n pv wr) (hg : wr.grownBy w' row) (hr : ∀ g, row = some g → Z + 2 ≤ g) : PS w Z s k x g n pv w' :=
  have h2 := h.lt
  ⟨h.lt, h.below.grown hg h.below.size (fun g e => by have := hr g e; omega), blk_grown h.res hg (fun g e => by have := hr g e; omega), blk_grown h.sc hg (fun g e => by have := hr g e; omega), blk_grown h.line hg (fun g e => by have := hr g e; omega)⟩
theorem res2 {W : World} {b : Nat} {x0 x1 : Value} {t : TypeId} (hk : W.heap[b]? = some (.cells #[x0, x1] t (0, 0))) :
    W.cell? ⟨b, 0, none⟩ = some x0 ∧ W.cell? ⟨b, 1, none⟩ = some x1 ∧ W.frozen? ⟨b, 0, none⟩ = false ∧ W.frozen? ⟨b, 1, none⟩ = false := by
  refine ⟨?_, ?_, Lib.frozen_of_heap hk 0, Lib.frozen_of_heap hk 1⟩
  all_goals rw [Lib.cell_of_heap hk]; rfl
theorem set2_0 {W : World} {b : Nat} {x0 x1 : Value} {t : TypeId} (hk : W.heap[b]? = some (.cells #[x0, x1] t (0, 0))) (u : Value) : (W.setCell ⟨b, 0, none⟩ u).heap[b]? = some (.cells #[u, x1] t (0, 0)) := by
  simp [World.setCell, Array.getElem?_modify, hk]
theorem set2_1 {W : World} {b : Nat} {x0 x1 : Value} {t : TypeId} (hk : W.heap[b]? = some (.cells #[x0, x1] t (0, 0))) (u : Value) : (W.setCell ⟨b, 1, none⟩ u).heap[b]? = some (.cells #[x0, u] t (0, 0)) := by
  simp [World.setCell, Array.getElem?_modify, hk]
theorem Own.snoc {B : Nat} {v' : Value} {ls : List Row} {x : ByteArray} {w' : World} (h : w'.ownsRow B 9 1 v' (ls.length + 1) (ls.map sv ++ [.string x])) : Own B v' (ls ++ [x.data.toList]) w' := by
  unfold Own
  rw [List.map_append, List.length_append, List.map_singleton, sv_data]
  exact h
theorem POwn.call {w w' : World} {Z : Nat} {v : Value} {ps : List PD} (h : POwn (Z + 2) v ps w) (hg : w.grownBy w' (some Z)) : POwn (Z + 2) v ps w' := h.far (gr_far hg (by omega))
end Go.Proofs.YthnnpnlapjlnoaaGreatDoor.Li

/-
  THE WALK OF THE REFERENCE's Same.
-/
set_option linter.unusedVariables false
namespace Go.Proofs.YthnnpnlapjlnoaaGreatDoor.Li
open Go.Lib Go.RowKit

/-- a bool that says whether two lines are one -/
def SameP (L M : LD) (e : Ending) : Prop := ∃ R : Bool, e = .returned (.bool R) ∧ (R = true ↔ L = M)

theorem SameP.no {L M : LD} (h : L ≠ M) : SameP L M (.returned (.bool false)) := ⟨false, rfl, (fun h' => by cases h'), fun h' => absurd h' h⟩
theorem SameP.yes {L M : LD} (h : L = M) : SameP L M (.returned (.bool true)) := ⟨true, rfl, fun _ => h, fun _ => rfl⟩
theorem sv_some (l : Row) : ∃ x : ByteArray, sv l = .string x ∧ x.data.toList = l := ⟨⟨l.toArray⟩, rfl, by simp⟩
theorem sv_ne {l m : Row} {x y : ByteArray} (hx : x.data.toList = l) (hy : y.data.toList = m) (h : l ≠ m) : ¬ x.toList = y.toList := fun e => h (by rw [← hx, ← hy, ← Lib.toList_data, ← Lib.toList_data, e])
theorem sv_eq {l m : Row} {x y : ByteArray} (hx : x.data.toList = l) (hy : y.data.toList = m) (h : l = m) : x = y := by
  rw [← Lib.mk_data x, ← Lib.mk_data y, hx, hy, h]
theorem take_step {α : Type} {xs ys : List α} {k : Nat} {x y : α} (h : xs.take k = ys.take k) (hx : xs[k]? = some x) (hy : ys[k]? = some y) (hxy : x = y) : xs.take (k + 1) = ys.take (k + 1) := by
  obtain ⟨h1, e1⟩ := List.getElem?_eq_some_iff.1 hx
  obtain ⟨h2, e2⟩ := List.getElem?_eq_some_iff.1 hy
  rw [List.take_succ_eq_append_getElem h1, List.take_succ_eq_append_getElem h2, h, e1, e2, hxy]
theorem below_then' {a b c : World} (h1 : Below a.heap.size a b) (h2 : Below b.heap.size b c) : Below a.heap.size a c := h1.trans (h2.mono h1.size)
theorem drewN_kept {w w' : World} (n : Nat) (h : Below w.heap.size w w') : Below w.heap.size w (w'.drewN n) := ⟨h.os, h.tape, h.output, h.size, h.block⟩

set_option maxHeartbeats 16000000 in
set_option maxRecDepth 100000 in
theorem refSame_any (v1 v2 : Value) (L M : LD) (w : World) (h1 : LineAt w v1 L) (h2 : LineAt w v2 M) :
    Calls Tryz.prog 32 #[v1, v2] w fun e w' => SameP L M e ∧ Below w.heap.size w w' := by
  obtain ⟨pv1, rfl, A, b, off, c, rfl, hc1, hc2, hA, hP⟩ := h1
  obtain ⟨pv2, rfl, B, b', off', c', rfl, hd1, hd2, hB, hQ⟩ := h2
  obtain ⟨a1, ea1, ha1⟩ := sv_some L.group
  obtain ⟨a2, ea2, ha2⟩ := sv_some L.name
  obtain ⟨a4, ea4, ha4⟩ := sv_some L.value
  obtain ⟨b1, eb1, hb1⟩ := sv_some M.group
  obtain ⟨b2, eb2, hb2⟩ := sv_some M.name
  obtain ⟨b4, eb4, hb4⟩ := sv_some M.value
  rw [ea1, ea2, ea4, eb1, eb2, eb4]
  have hbox : Below w.heap.size w ((w.alloc (.cells #[.string a1, .string a2, .slice A L.params.length c, .string a4] 41)).alloc (.cells #[.string b1, .string b2, .slice B M.params.length c', .string b4] 41)) := ((Below.refl _ _).alloc (Nat.le_refl _) _).alloc (by simp) _
  clear ea1 ea2 ea4 eb1 eb2 eb4
  by_cases g1 : L.group = M.group
  · obtain rfl := sv_eq ha1 hb1 g1
    by_cases g2 : L.name = M.name
    · obtain rfl := sv_eq ha2 hb2 g2
      by_cases g4 : L.value = M.value
      · obtain rfl := sv_eq ha4 hb4 g4
        by_cases gn : L.params.length = M.params.length
        · obtain ⟨n, hn⟩ : ∃ n, L.params.length = n := ⟨_, rfl⟩
          have hm : M.params.length = n := by omega
          have hno : ∀ (k : Nat) (p q : PD), L.params[k]? = some p → M.params[k]? = some q → p ≠ q → SameP L M (.returned (.bool false)) := fun k p q hp hq hne => SameP.no fun e => by
            rw [e, hq] at hp
            exact hne (Option.some.inj hp).symm
          have hyes : L.params.take n = M.params.take n → SameP L M (.returned (.bool true)) := fun h => SameP.yes (by
            rw [List.take_of_length_le (by omega), List.take_of_length_le (by omega)] at h
            cases L; cases M; simp_all)
          rw [hn] at hbox hc1 hA ⊢
          rw [hm] at hbox hd1 hB ⊢
          have hno' := Lib.hid hno
          have hyes' := Lib.hid hyes
          have hn' := Lib.hid hn
          have hm' := Lib.hid hm
          have hP' := Lib.hid hP
          have hQ' := Lib.hid hQ
          have hA' := Lib.hid hA
          have hB' := Lib.hid hB
          unfold maxLen at hc2 hd2
          clear g1 g2 g4 gn hno hyes hn hm hP hQ hA hB ha1 ha2 ha4 hb1 hb2 hb4
          go_enter Tryz.func32, Tryz.ntmps32
          go_wp2
          have k2 : ∀ wr, Below ((w.alloc (.cells #[.string a1, .string a2, .slice A n c, .string a4] 41)).alloc (.cells #[.string a1, .string a2, .slice B n c', .string a4] 41)).heap.size ((w.alloc (.cells #[.string a1, .string a2, .slice A n c, .string a4] 41)).alloc (.cells #[.string a1, .string a2, .slice B n c', .string a4] 41)) wr →
              wr.cell? ⟨w.heap.size, 2, none⟩ = some (.slice A n c) ∧ wr.cell? ⟨w.heap.size + 1, 2, none⟩ = some (.slice B n c') := fun wr h => by
            rw [h.cell (p := ⟨w.heap.size, 2, none⟩) (by simp; omega), h.cell (p := ⟨w.heap.size + 1, 2, none⟩) (by simp)]
            constructor
            · rw [World.cell?_alloc_lt _ _ _ (by simp), World.cell?_alloc_at _ _ _ _ rfl]; rfl
            · rw [World.cell?_alloc_at _ _ _ _ (by simp)]; rfl
          obtain ⟨wb, hwb⟩ : ∃ wb, ((w.alloc (.cells #[.string a1, .string a2, .slice A n c, .string a4] 41)).alloc (.cells #[.string a1, .string a2, .slice B n c', .string a4] 41)) = wb := ⟨_, rfl⟩
          rw [hwb] at k2 hbox ⊢
          have k2' := Lib.hid k2
          clear hwb k2
          go_loopw [38] (fun s38 wr => ∃ k : Nat, s38 = .int .i64 (k : Int) ∧ k ≤ n ∧ L.params.take k = M.params.take k ∧ Below wb.heap.size wb wr) (fun s38 wr => n - (RowKit.intOf s38).toNat)
          case atStart => exact ⟨0, rfl, Nat.zero_le _, rfl, Below.refl _ _⟩
          case round =>
            obtain ⟨k, rfl, hk, heq, hbr⟩ := hrel
            have heq' := Lib.hid heq
            clear heq
            by_cases hlt : k < n
            · have hp : L.params[k]? = some (L.params[k]'(by have := hn'.out; omega)) := List.getElem?_eq_getElem _
              have hq : M.params[k]? = some (M.params[k]'(by have := hm'.out; omega)) := List.getElem?_eq_getElem _
              obtain ⟨P, hPe⟩ : ∃ P, L.params[k]'(by have := hn'.out; omega) = P := ⟨_, rfl⟩
              obtain ⟨Q, hQe⟩ : ∃ Q, M.params[k]'(by have := hm'.out; omega) = Q := ⟨_, rfl⟩
              rw [hPe] at hp
              rw [hQe] at hq
              clear hPe hQe
              obtain ⟨rfl, hAb⟩ := hA'.out (by omega)
              obtain ⟨rfl, hBb⟩ := hB'.out (by omega)
              have hbw := below_then' hbox hbr
              obtain ⟨p1, u, p2, hu⟩ := hP'.out k P hp
              obtain ⟨q1, z, q2, hz⟩ := hQ'.out k Q hq
              obtain ⟨x, ex, hx⟩ := sv_some P.name
              obtain ⟨y, ey, hy⟩ := sv_some Q.name
              rw [ex] at p1
              rw [ey] at q1
              rw [← hbw.cell (p := ⟨b, off + k * 2, none⟩) hAb] at p1
              rw [← hbw.cell (p := ⟨b, off + k * 2 + 1, none⟩) hAb] at p2
              rw [← hbw.cell (p := ⟨b', off' + k * 2, none⟩) hBb] at q1
              rw [← hbw.cell (p := ⟨b', off' + k * 2 + 1, none⟩) hBb] at q2
              have hu2 := hu
              have hz2 := hz
              obtain ⟨k3, k4⟩ := k2'.out wr hbr
              have hnof := Lib.hid (hno'.out k P Q hp hq)
              have hp' := Lib.hid hp
              have hq' := Lib.hid hq
              clear hp hq hu hz ex ey
              by_cases gx : P.name = Q.name
              · obtain rfl := sv_eq hx hy gx
                have gx' := Lib.hid gx
                clear hx hy gx
                obtain ⟨A2, c2, o2, d2, rfl, hs1, hs2, hs3, hs4⟩ := hu2
                obtain ⟨B2, e2, r2, t2, rfl, ht1, ht2, ht3, ht4⟩ := hz2
                by_cases gl : P.vals.length = Q.vals.length
                · obtain ⟨l, hl⟩ : ∃ l, P.vals.length = l := ⟨_, rfl⟩
                  have hl2 : Q.vals.length = l := by omega
                  have Hc : ∀ W, Below w.heap.size w W → W.cell? ⟨w.heap.size, 2, none⟩ = W.cell? ⟨w.heap.size, 2, none⟩ ∧ W.cell? ⟨b, off + k * 2 + 1, none⟩ = some (.slice A2 P.vals.length d2) ∧ W.cell? ⟨b', off' + k * 2 + 1, none⟩ = some (.slice B2 Q.vals.length t2) := fun W hW =>
                    ⟨rfl, by rw [hW.cell (p := ⟨b, off + k * 2 + 1, none⟩) hAb, ← hbw.cell (p := ⟨b, off + k * 2 + 1, none⟩) hAb]; exact p2, by rw [hW.cell (p := ⟨b', off' + k * 2 + 1, none⟩) hBb, ← hbw.cell (p := ⟨b', off' + k * 2 + 1, none⟩) hBb]; exact q2⟩
                  have hdone : P.vals.take l = Q.vals.take l → L.params.take (k + 1) = M.params.take (k + 1) := fun h => by
                    refine take_step heq'.out hp'.out hq'.out ?_
                    rw [List.take_of_length_le (by omega), List.take_of_length_le (by omega)] at h
                    cases P; cases Q
                    have := gx'.out
                    simp_all
                  have hdone' := Lib.hid hdone
                  unfold maxLen at hs2 ht2
                  rw [hl] at Hc hs1 hs3 p2
                  rw [hl2] at Hc ht1 ht3 q2
                  have hl' := Lib.hid hl
                  have hl2' := Lib.hid hl2
                  have Hc' := Lib.hid Hc
                  have hs4' := Lib.hid hs4
                  have ht4' := Lib.hid ht4
                  have hs3' := Lib.hid hs3
                  have ht3' := Lib.hid ht3
                  clear gl hl hl2 Hc hdone hs4 ht4 hs3 ht3
                  go_wp2
                  go_quiet (fail)
                  go_wp2
                  clear p1 p2 q1 q2 k3 k4
                  obtain ⟨wo, rfl⟩ : ∃ wo : World, wo = wr := ⟨_, rfl⟩
                  go_loopw [78] (fun s78 wx => ∃ j : Nat, s78 = .int .i64 (j : Int) ∧ j ≤ l ∧ P.vals.take j = Q.vals.take j ∧ Below wb.heap.size wb wx) (fun s78 wx => l - (RowKit.intOf s78).toNat)
                  case atStart => exact ⟨0, rfl, Nat.zero_le _, rfl, drewN_kept _ hbr⟩
                  case round =>
                    obtain ⟨j, rfl, hj, hje, hbx⟩ := hrel
                    have hje' := Lib.hid hje
                    clear hje
                    have hbxw := below_then' hbox hbx
                    obtain ⟨k3, k4⟩ := k2'.out wr hbx
                    obtain ⟨_, p2, q2⟩ := Hc'.out wr hbxw
                    by_cases hjl : j < l
                    · have hpj : P.vals[j]? = some (P.vals[j]'(by have := hl'.out; omega)) := List.getElem?_eq_getElem _
                      have hqj : Q.vals[j]? = some (Q.vals[j]'(by have := hl2'.out; omega)) := List.getElem?_eq_getElem _
                      obtain ⟨X, hX⟩ : ∃ X, P.vals[j]'(by have := hl'.out; omega) = X := ⟨_, rfl⟩
                      obtain ⟨Y, hY⟩ : ∃ Y, Q.vals[j]'(by have := hl2'.out; omega) = Y := ⟨_, rfl⟩
                      rw [hX] at hpj
                      rw [hY] at hqj
                      clear hX hY
                      obtain ⟨rfl, hcb⟩ := hs3'.out (by omega)
                      obtain ⟨rfl, heb⟩ := ht3'.out (by omega)
                      have v1 := hs4'.out j X hpj
                      have v2 := ht4'.out j Y hqj
                      rw [← hbxw.cell (p := ⟨c2, o2 + j, none⟩) hcb] at v1
                      rw [← hbxw.cell (p := ⟨e2, r2 + j, none⟩) heb] at v2
                      obtain ⟨x1, ex1, hx1⟩ := sv_some X
                      obtain ⟨y1, ey1, hy1⟩ := sv_some Y
                      rw [ex1] at v1
                      rw [ey1] at v2
                      clear ex1 ey1
                      by_cases gv : X = Y
                      · obtain rfl := sv_eq hx1 hy1 gv
                        have hnx := Lib.hid (take_step hje'.out hpj hqj gv)
                        clear hpj hqj gv hx1 hy1
                        go_wp2
                        go_quiet (fail)
                        go_wp2
                        exact ⟨⟨j + 1, by go_num, by omega, hnx.out, drewN_kept _ hbx⟩, by simp [RowKit.intOf]; omega⟩
                      · have hf := Lib.hid (hnof.out fun e => gv (by rw [e, hqj] at hpj; exact (Option.some.inj hpj).symm))
                        have dv := sv_ne hx1 hy1 gv
                        have dv' := Lib.hid dv
                        clear hpj hqj gv hx1 hy1
                        go_wp2
                        go_quiet (fail)
                        go_wp2
                        · go_ret
                          exact ⟨hf.out, drewN_kept _ hbxw⟩
                        · rename_i hbad
                          exact absurd hbad (by simp [dv'.out])
                    · have hnx := Lib.hid (hdone'.out (by have := hje'.out; rwa [show j = l by omega] at this))
                      go_wp2
                      go_roundw
                      case rel => exact ⟨k + 1, by go_num, by omega, hnx.out, hbx⟩
                      case measure => simp [RowKit.intOf]; omega
                · have hf := Lib.hid (hnof.out fun e => gl (by rw [e]))
                  have dl : ((P.vals.length : Int) != (Q.vals.length : Int)) = true := bne_iff_ne.2 (by omega)
                  clear gl hs1 hs2 hs3 hs4 ht1 ht2 ht3 ht4 hnof
                  go_wp2
                  go_quiet (fail)
                  go_wp2
                  go_ret
                  exact ⟨hf.out, drewN_kept _ hbw⟩
              · have hf := Lib.hid (hnof.out fun e => gx (by rw [e]))
                have dx := sv_ne hx hy gx
                clear gx hx hy hu2 hz2
                go_wp2
                go_quiet (fail)
                go_wp2
                go_ret
                exact ⟨hf.out, drewN_kept _ hbw⟩
            · have hf := Lib.hid (hyes'.out (by have := heq'.out; rwa [show k = n by omega] at this))
              go_wp2
              go_ret
              exact ⟨hf.out, below_then' hbox hbr⟩
        · have hf := Lib.hid (SameP.no (L := L) (M := M) fun e => gn (by rw [e]))
          obtain ⟨n, hn⟩ : ∃ n, L.params.length = n := ⟨_, rfl⟩
          obtain ⟨m, hm⟩ : ∃ m, M.params.length = m := ⟨_, rfl⟩
          rw [hn, hm] at gn hbox ⊢
          have dl : ((n : Int) != (m : Int)) = true := bne_iff_ne.2 (by omega)
          clear g1 g2 g4 gn hn hm hP hQ hA hB ha1 ha2 ha4 hb1 hb2 hb4
          go_enter Tryz.func32, Tryz.ntmps32
          go_wp2
          go_ret
          exact ⟨hf.out, hbox⟩
      · have hf := Lib.hid (SameP.no (L := L) (M := M) fun e => g4 (by rw [e]))
        have d4 := sv_ne ha4 hb4 g4
        clear g1 g2 g4 hP hQ hA hB ha1 ha2 ha4 hb1 hb2 hb4
        go_enter Tryz.func32, Tryz.ntmps32
        go_wp2
        go_ret
        exact ⟨hf.out, hbox⟩
    · have hf := Lib.hid (SameP.no (L := L) (M := M) fun e => g2 (by rw [e]))
      have d2 := sv_ne ha2 hb2 g2
      clear g1 g2 hP hQ hA hB ha1 ha2 ha4 hb1 hb2 hb4
      go_enter Tryz.func32, Tryz.ntmps32
      go_wp2
      go_ret
      exact ⟨hf.out, hbox⟩
  · have hf := Lib.hid (SameP.no (L := L) (M := M) fun e => g1 (by rw [e]))
    have d1 := sv_ne ha1 hb1 g1
    clear g1 hP hQ hA hB ha1 ha2 ha4 hb1 hb2 hb4
    go_enter Tryz.func32, Tryz.ntmps32
    go_wp2
    go_ret
    exact ⟨hf.out, hbox⟩
end Go.Proofs.YthnnpnlapjlnoaaGreatDoor.Li
