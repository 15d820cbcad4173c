/-
  THE WALK OF THE REFERENCE's (*Scan).value: A VALUE IN QUOTES; AND THE TWO TOGETHER.
-/
import Derived.Test.YthkcjfoihieooaaDoorLineVal
set_option linter.unusedVariables false
namespace Go.Proofs.YthkcjfoihieooaaDoor.Li
open Go.Lib Go.RowKit

def notQ (c : UInt8) : Bool := !(c == 34)
/-- a value in quotes at k (the quote stands at k) -/
def QuoteP (b : Nat) (w : World) (s : ByteArray) (k x : Nat) (e : Ending) (w' : World) : Prop :=
  ((k + 1 + plen notQ (s.data.toList.drop (k + 1)) < s.size ∧ e = strOf (mean ((s.data.toList.drop (k + 1)).take (plen notQ (s.data.toList.drop (k + 1))))) ∧ Sc b s (k + 1 + plen notQ (s.data.toList.drop (k + 1)) + 1) x w') ∨
   (k + 1 + plen notQ (s.data.toList.drop (k + 1)) = s.size ∧ e = strOf [] ∧ Sc b s s.size (bad31 x) w')) ∧ w.grownBy w' (some b)

set_option maxHeartbeats 8000000 in
set_option maxRecDepth 100000 in
theorem scQuoted (b : Nat) (s : ByteArray) (k x : Nat) (w : World) (h : Sc b s k x w) (hlt0 : k < s.size) (hs : s.size ≤ 4611686018427387904) (hq : s[k]'hlt0 = 34) :
    Calls Tryd.prog 29 #[.pointer (some ⟨b, 0, none⟩)] w fun e w' => QuoteP b w s k x e w' := by
  have hN : ∀ A, k + 1 ≤ A → A ≤ s.size → (∀ i, k + 1 ≤ i → i < A → notQ (s.data.toList.getD i 0) = true) → (A < s.size → notQ (s.data.toList.getD A 0) = false) → plen notQ (s.data.toList.drop (k + 1)) = A - (k + 1) := fun A h1 h2 h3 h4 => plen_drop notQ s (k + 1) A h1 h2 h3 h4
  unfold QuoteP
  generalize plen notQ (s.data.toList.drop (k + 1)) = n at hN ⊢
  have hN' := Lib.hid hN
  obtain ⟨c0, c1, c2, f1, f2⟩ := h.cells
  have h' := Lib.hid h
  have hv : (((s[k]'hlt0).toNat : Int) == 34) = true := byte_eq _ 34 hq
  obtain ⟨K, hK⟩ : ∃ K, k + 1 = K := ⟨_, rfl⟩
  have hKI : (k : Int) + 1 = (K : Int) := by omega
  have hwK : IntKind.i64.wrap (K : Int) = (K : Int) := Go.IntWalk.i64_in _ ⟨by omega, by omega⟩
  have hKs : K ≤ s.size := by omega
  have hset : ∀ q, Sc b s K x ((w.drewN q).setCell ⟨b, 1, none⟩ (.int .i64 (K : Int))) := fun q => (h'.out.drewN q).at_
  rw [hK] at hN' ⊢
  have hK' := Lib.hid hK
  clear hN h hK
  go_enter Tryd.func29, Tryd.ntmps29
  go_wp2
  go_quiet (fail)
  go_wp2
  clear c0 c1 c2 f1 f2
  go_loopw [] (fun wr => ∃ A : Nat, K ≤ A ∧ A ≤ s.size ∧ Hid (Sc b s A x wr) ∧ w.grownBy wr (some b) ∧ ∀ i, K ≤ i → i < A → notQ (s.data.toList.getD i 0) = true) (fun wr => s.size - atOf b wr)
  case atStart => exact ⟨K, Nat.le_refl _, hKs, Lib.hid (hset _), gr_set (gr_drewN (World.grownBy.refl w _) _) _, fun i h1 h2 => by omega⟩
  case round =>
    obtain ⟨A, hkA, hA, hsc, hg, hall⟩ := hrel
    have hall' := Lib.hid hall
    have hat := Lib.hid (atOf_is hsc.out)
    obtain ⟨c0, c1, c2, f1, f2⟩ := hsc.out.cells
    clear hall hset
    by_cases hlt : A < s.size
    · obtain ⟨B, hB⟩ : ∃ B, A + 1 = B := ⟨_, rfl⟩
      have hAI : (A : Int) + 1 = (B : Int) := by omega
      have hwB : IntKind.i64.wrap (B : Int) = (B : Int) := Go.IntWalk.i64_in _ ⟨by omega, by omega⟩
      have hs2 : ∀ q, Sc b s B x ((wr.drewN q).setCell ⟨b, 1, none⟩ (.int .i64 (B : Int))) := fun q => (hsc.out.drewN q).at_
      have hpl : notQ (s.data.toList.getD A 0) = !((s[A]'hlt) == 34) := by rw [data_at s A hlt]; rfl
      by_cases hc : s[A]'hlt = 34
      · have hne : (((s[A]'hlt).toNat : Int) == 34) = true := byte_eq _ 34 hc
        have hstop : A < s.size → notQ (s.data.toList.getD A 0) = false := fun _ => by rw [hpl, hc]; rfl
        have hn : n = A - K := hN'.out A hkA hA hall'.out hstop
        have hfin : ∀ W, Sc b s B x W → w.grownBy W (some b) → (((K + n < s.size ∧ strOf (mean (s.extract K A).data.toList) = strOf (mean ((s.data.toList.drop K).take n)) ∧ Sc b s (K + n + 1) x W) ∨ (K + n = s.size ∧ strOf (mean (s.extract K A).data.toList) = strOf [] ∧ Sc b s s.size (bad31 x) W)) ∧ w.grownBy W (some b)) := fun W h1 h2 => ⟨.inl ⟨by omega, by rw [Lib.extract_data, hn], by rw [show K + n + 1 = B by omega]; exact h1⟩, h2⟩
        have hfin' := Lib.hid hfin
        have hBA : (B : Int) - 1 = (A : Int) := by omega
        have hwA : IntKind.i64.wrap (A : Int) = (A : Int) := Go.IntWalk.i64_in _ ⟨by omega, by omega⟩
        have dne : ((A : Int) == (s.size : Int)) = false := beq_eq_false_iff_ne.2 (by omega)
        have i1 : (K : Int) ≤ (A : Int) := by omega
        have i2 : (A : Int) ≤ (s.size : Int) := by omega
        have i3 : ¬ (A : Int) < (K : Int) := by omega
        have i4 : ¬ (s.size : Int) < (A : Int) := by omega
        have i5 : (0 : Int) ≤ (K : Int) := by omega
        have cM : ∀ W, Calls Tryd.prog 48 #[.string (s.extract K A)] W fun e w' => e = .returned (.string ⟨(mean (s.extract K A).data.toList).toArray⟩) ∧ w' = W := fun W => (refMeant_any (s.extract K A) W (by rw [Lib.size_eq, Lib.extract_data, List.length_take]; omega)).mono fun e w' ⟨h1, h2⟩ => ⟨h1, h2.symm⟩
        clear hpl hc hstop hn hfin hB
        go_wp2
        go_quiet (fail)
        go_wp2
        go_quiet (fail)
        go_wp2
        go_quiet ((go_at_call 48; first | exact Calls.quiet_of_same (cM _) | exact quiet_again (cM _)))
        go_wp2
        go_ret
        exact hfin'.out _ (hs2 _) (gr_drewN (gr_set (gr_drewN hg _) _) _)
      · have hne : (((s[A]'hlt).toNat : Int) == 34) = false := byte_ne _ 34 hc
        have hnext : ∀ i, K ≤ i → i < B → notQ (s.data.toList.getD i 0) = true := fun i h1 h2 => by
          rcases Nat.lt_succ_iff_lt_or_eq.1 (show i < A + 1 by omega) with h | h
          · exact hall'.out i h1 h
          · rw [h, hpl]; simp [hc]
        have hnext' := Lib.hid hnext
        have hkB : K ≤ B := by omega
        have hBs : B ≤ s.size := by omega
        have hAB : s.size - B < s.size - A := by omega
        clear hpl hc hnext hB
        go_wp2
        go_quiet (fail)
        go_wp2
        go_roundw
        case rel => exact ⟨B, hkB, hBs, Lib.hid (hs2 _), gr_set (gr_drewN hg _) _, hnext'.out⟩
        case measure =>
          rw [hat.out]
          show s.size - atOf b ((wr.drewN _).setCell ⟨b, 1, none⟩ (.int .i64 (B : Int))) < s.size - A
          rw [atOf_is (hs2 _)]
          exact hAB
    · have hAe : A = s.size := by omega
      have dl1 : decide (A < s.size) = false := decide_eq_false hlt
      have hn : n = A - K := hN'.out A hkA hA hall'.out (fun h => absurd h hlt)
      have hfin : ∀ W y e, e = strOf [] → Sc b s A y W → w.grownBy W (some b) → bad31 x = y → (((K + n < s.size ∧ e = strOf (mean ((s.data.toList.drop K).take n)) ∧ Sc b s (K + n + 1) x W) ∨ (K + n = s.size ∧ e = strOf [] ∧ Sc b s s.size (bad31 x) W)) ∧ w.grownBy W (some b)) := fun W y e h0 h1 h2 h3 => ⟨.inr ⟨by omega, h0, by rw [h3, ← hAe]; exact h1⟩, h2⟩
      have hfin' := Lib.hid hfin
      have dne : ((A : Int) == (s.size : Int)) = true := beq_iff_eq.2 (by omega)
      have hbad : (x = 0 ∧ bad31 x = 31) ∨ (x ≠ 0 ∧ bad31 x = x) := by
        unfold bad31
        by_cases h0 : x = 0
        · exact .inl ⟨h0, if_pos h0⟩
        · exact .inr ⟨h0, if_neg h0⟩
      clear hn hfin
      rcases hbad with ⟨h0, hb⟩ | ⟨h0, hb⟩
      · subst h0
        have hb' := Lib.hid hb
        clear hb
        go_wp2
        go_quiet (fail)
        go_wp2
        go_quiet (fail)
        go_wp2
        go_ret
        exact hfin'.out _ 31 _ rfl ((hsc.out.drewN _).bad_) (gr_set (gr_drewN hg _) _) hb'.out
      · have dx : ((x : Int) == 0) = false := beq_eq_false_iff_ne.2 (by omega)
        have hb' := Lib.hid hb
        clear hb h0
        go_wp2
        go_quiet (fail)
        go_wp2
        go_quiet (fail)
        go_wp2
        go_ret
        exact hfin'.out _ x _ rfl (hsc.out.drewN _) (gr_drewN hg _) hb'.out
