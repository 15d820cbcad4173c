/-
  WALKS OF THE REFERENCE's (*Scan).name AND sign.
-/
import Derived.Test.YthkcjfoihieooaaDoorLineRefHas
import Derived.Test.YthkcjfoihieooaaDoorLineRefMean
import Derived.Test.YthkcjfoihieooaaDoorLineMem
set_option linter.unusedVariables false
namespace Go.Proofs.YthkcjfoihieooaaDoor.Li
open Go.Lib Go.RowKit

/-- where a line is read, and its error: the block b -/
def Sc (b : Nat) (s : ByteArray) (k x : Nat) (w : World) : Prop := w.heap[b]? = some (.cells #[.string s, .int .i64 (k : Int), .int .i64 (x : Int)] 52 (0, 0))
theorem Sc.cells {b k x : Nat} {s : ByteArray} {w : World} (h : Sc b s k x w) : w.cell? ⟨b, 0, none⟩ = some (.string s) ∧ w.cell? ⟨b, 1, none⟩ = some (.int .i64 (k : Int)) ∧ w.cell? ⟨b, 2, none⟩ = some (.int .i64 (x : Int)) ∧
    w.frozen? ⟨b, 1, none⟩ = false ∧ w.frozen? ⟨b, 2, none⟩ = false := by
  unfold Sc at h
  refine ⟨by rw [Lib.cell_of_heap h]; rfl, by rw [Lib.cell_of_heap h]; rfl, by rw [Lib.cell_of_heap h]; rfl, Lib.frozen_of_heap h 1, Lib.frozen_of_heap h 2⟩
theorem Sc.at_ {b k x k' : Nat} {s : ByteArray} {w : World} (h : Sc b s k x w) : Sc b s k' x (w.setCell ⟨b, 1, none⟩ (.int .i64 (k' : Int))) := by
  unfold Sc at h ⊢
  simp [World.setCell, Array.getElem?_modify, h]
theorem Sc.bad_ {b k x x' : Nat} {s : ByteArray} {w : World} (h : Sc b s k x w) : Sc b s k x' (w.setCell ⟨b, 2, none⟩ (.int .i64 (x' : Int))) := by
  unfold Sc at h ⊢
  simp [World.setCell, Array.getElem?_modify, h]
theorem Sc.drewN {b k x : Nat} {s : ByteArray} {w : World} (n : Nat) (h : Sc b s k x w) : Sc b s k x (w.drewN n) := h
theorem gr_drewN {a w : World} {row : Option Nat} (h : a.grownBy w row) (n : Nat) : a.grownBy (w.drewN n) row := ⟨h.os, h.tape, h.output, h.size, h.block⟩
theorem gr_set {a w : World} {b o : Nat} (h : a.grownBy w (some b)) (u : Value) : a.grownBy (w.setCell ⟨b, o, none⟩ u) (some b) :=
  ⟨h.os, h.tape, h.output, by simpa [World.setCell] using h.size, fun i hi hne => (Below.heap_setCell w ⟨b, o, none⟩ u i (fun e => hne (by rw [show i = b from e]))).trans (h.block i hi hne)⟩
theorem gr_trans {a w w' : World} {b : Nat} (h : a.grownBy w (some b)) (k : w.grownBy w' (some b)) : a.grownBy w' (some b) :=
  ⟨k.os.trans h.os, k.tape.trans h.tape, k.output.trans h.output, Nat.le_trans h.size k.size, fun i hi hne => (k.block i (Nat.lt_of_lt_of_le hi h.size) hne).trans (h.block i hi hne)⟩
def atOf (b : Nat) (w : World) : Nat := (RowKit.intOf ((w.cell? ⟨b, 1, none⟩).getD undef)).toNat
theorem atOf_is {b k x : Nat} {s : ByteArray} {w : World} (h : Sc b s k x w) : atOf b w = k := by
  unfold atOf
  rw [h.cells.2.1]
  simp [RowKit.intOf]

theorem nlen_drop (s : ByteArray) (k A : Nat) (hk : k ≤ A) (hA : A ≤ s.size) (h1 : ∀ i, k ≤ i → i < A → inB (s.data.toList.getD i 0) = true) (h2 : A < s.size → inB (s.data.toList.getD A 0) = false) : nlen (s.data.toList.drop k) = A - k := by
  refine nlen_at _ _ (by rw [List.length_drop, ← Lib.size_eq]; omega) (fun j hj => ?_) (fun hlt => ?_)
  · rw [Ch.getD_drop]; exact h1 _ (by omega) (by omega)
  · rw [Ch.getD_drop, show k + (A - k) = A by omega]
    exact h2 (by rw [List.length_drop, ← Lib.size_eq] at hlt; omega)
def badAt (x n : Nat) : Nat := if x = 0 ∧ (n < 1 ∨ 64 < n) then 30 else x

set_option maxHeartbeats 8000000 in
set_option maxRecDepth 100000 in
theorem scName (b : Nat) (s : ByteArray) (k x : Nat) (w : World) (h : Sc b s k x w) (hk : k ≤ s.size) (hs : s.size ≤ 4611686018427387904) (hx : x ≤ 1000) :
    Calls Tryd.prog 27 #[.pointer (some ⟨b, 0, none⟩)] w fun e w' => e = .returned (.string (s.extract k (k + nlen (s.data.toList.drop k)))) ∧ Sc b s (k + nlen (s.data.toList.drop k)) (badAt x (nlen (s.data.toList.drop k))) w' ∧ w.grownBy w' (some b) := by
  have hN : ∀ A, k ≤ A → A ≤ s.size → (∀ i, k ≤ i → i < A → inB (s.data.toList.getD i 0) = true) → (A < s.size → inB (s.data.toList.getD A 0) = false) → nlen (s.data.toList.drop k) = A - k := fun A h1 h2 h3 h4 => nlen_drop s k A h1 h2 h3 h4
  generalize nlen (s.data.toList.drop k) = n at hN ⊢
  have hN' := Lib.hid hN
  obtain ⟨c0, c1, c2, f1, f2⟩ := h.cells
  have h' := Lib.hid h
  clear hN h
  go_enter Tryd.func27, Tryd.ntmps27
  go_wp2
  clear c0 c1 c2 f1 f2
  go_loopw [] (fun wr => ∃ A : Nat, k ≤ A ∧ A ≤ s.size ∧ Hid (Sc b s A x wr) ∧ w.grownBy wr (some b) ∧ ∀ i, k ≤ i → i < A → inB (s.data.toList.getD i 0) = true) (fun wr => s.size - atOf b wr)
  case atStart => exact ⟨k, Nat.le_refl _, hk, h', World.grownBy.refl w _, fun i h1 h2 => by omega⟩
  case round =>
    obtain ⟨A, hkA, hA, hsc, hg, hall⟩ := hrel
    have hall' := Lib.hid hall
    have hat := Lib.hid (atOf_is hsc.out)
    obtain ⟨c0, c1, c2, f1, f2⟩ := hsc.out.cells
    clear hall
    have hcase : (A < s.size ∧ inB (s.data.toList.getD A 0) = true) ∨ (A < s.size → inB (s.data.toList.getD A 0) = false) := by
      by_cases h1 : A < s.size
      · cases h2 : inB (s.data.toList.getD A 0)
        · exact .inr fun _ => rfl
        · exact .inl ⟨h1, rfl⟩
      · exact .inr fun h => absurd h h1
    rcases hcase with ⟨hlt, hin⟩ | hstop
    · have hnext : ∀ i, k ≤ i → i < A + 1 → inB (s.data.toList.getD i 0) = true := fun i h1 h2 => by
        rcases Nat.lt_succ_iff_lt_or_eq.1 h2 with h | h
        · exact hall'.out i h1 h
        · rw [h]; exact hin
      have hnext' := Lib.hid hnext
      have cI : ∀ W, Calls Tryd.prog 31 #[.int .u8 ((s[A]'hlt).toNat : Int)] W fun e w' => e = .returned (.bool true) ∧ w' = W := fun W => by
        have := refIn_any (s[A]'hlt) W
        rw [← data_at s A hlt, hin, data_at s A hlt] at this
        exact this.mono fun e w' ⟨h1, h2⟩ => ⟨h1, h2.symm⟩
      clear hin hnext
      go_wp2
      go_quiet ((go_at_call 31; exact Calls.quiet_of_same (cI _)))
      go_wp2
      have hs2 : ∀ q, Sc b s (A + 1) x ((wr.drewN q).setCell ⟨b, 1, none⟩ (.int .i64 ((A + 1 : Nat) : Int))) := fun q => (hsc.out.drewN q).at_
      go_roundw
      case rel => exact ⟨A + 1, by omega, by omega, Lib.hid (hs2 _), gr_set (gr_drewN hg _) _, hnext'.out⟩
      case measure =>
        rw [hat.out]
        show s.size - atOf b ((wr.drewN _).setCell ⟨b, 1, none⟩ (.int .i64 ((A + 1 : Nat) : Int))) < s.size - A
        rw [atOf_is (hs2 _)]
        omega
    · have hn : n = A - k := hN'.out A hkA hA hall'.out hstop
      have hkn : k + n = A := by omega
      have hnI : (A : Int) - (k : Int) = (n : Int) := by omega
      have j1 : (k : Int) ≤ (A : Int) := by omega
      have j2 : (A : Int) ≤ (s.size : Int) := by omega
      have j3 : (0 : Int) ≤ (k : Int) := by omega
      have j4 : ¬ (A : Int) < (k : Int) := by omega
      have j5 : ¬ (s.size : Int) < (A : Int) := by omega
      have hfin : ∀ W y, Sc b s A y W → w.grownBy W (some b) → badAt x n = y → (Ending.returned (.string (s.extract k A)) = Ending.returned (.string (s.extract k (k + n))) ∧ Sc b s (k + n) (badAt x n) W ∧ w.grownBy W (some b)) := fun W y h1 h2 h3 => ⟨by rw [hkn], by rw [h3, hkn]; exact h1, h2⟩
      have hfin' := Lib.hid hfin
      have hstop' := Lib.hid hstop
      clear hn hkn hstop hfin
      -- the two ways out of the loop, and the error
      have hout : (A < s.size ∧ inB (s.data.toList.getD A 0) = false) ∨ ¬ A < s.size := by
        by_cases h : A < s.size
        · exact .inl ⟨h, hstop'.out h⟩
        · exact .inr h
      have hbad : (x = 0 ∧ n < 1 ∧ badAt x n = 30) ∨ (x = 0 ∧ ¬ n < 1 ∧ 64 < n ∧ badAt x n = 30) ∨ (x = 0 ∧ ¬ n < 1 ∧ ¬ 64 < n ∧ badAt x n = 0) ∨ (x ≠ 0 ∧ badAt x n = x) := by
        unfold badAt
        by_cases h0 : x = 0
        · by_cases h1 : n < 1
          · exact .inl ⟨h0, h1, if_pos ⟨h0, .inl h1⟩⟩
          · by_cases h2 : 64 < n
            · exact .inr (.inl ⟨h0, h1, h2, if_pos ⟨h0, .inr h2⟩⟩)
            · exact .inr (.inr (.inl ⟨h0, h1, h2, by rw [if_neg (by omega)]; exact h0⟩))
        · exact .inr (.inr (.inr ⟨h0, if_neg (fun h => h0 h.1)⟩))
      rcases hout with ⟨hlt, hin⟩ | hge
      · have cI : ∀ W, Calls Tryd.prog 31 #[.int .u8 ((s[A]'hlt).toNat : Int)] W fun e w' => e = .returned (.bool false) ∧ w' = W := fun W => by
          have := refIn_any (s[A]'hlt) W
          rw [← data_at s A hlt, hin, data_at s A hlt] at this
          exact this.mono fun e w' ⟨h1, h2⟩ => ⟨h1, h2.symm⟩
        clear hin
        rcases hbad with ⟨h0, h1, hb⟩ | ⟨h0, h1, h2, hb⟩ | ⟨h0, h1, h2, hb⟩ | ⟨h0, hb⟩
        · subst h0
          have hb' := Lib.hid hb
          clear hb
          go_wp2
          go_quiet ((go_at_call 31; exact Calls.quiet_of_same (cI _)))
          go_wp2
          go_quiet (fail)
          go_wp2
          go_ret
          exact hfin'.out _ 30 ((hsc.out.drewN _).bad_) (gr_drewN (gr_set (gr_drewN hg _) _) _) hb'.out
        · subst h0
          have hb' := Lib.hid hb
          clear hb
          go_wp2
          go_quiet ((go_at_call 31; exact Calls.quiet_of_same (cI _)))
          go_wp2
          go_quiet (fail)
          go_wp2
          go_ret
          exact hfin'.out _ 30 ((hsc.out.drewN _).bad_) (gr_drewN (gr_set (gr_drewN hg _) _) _) hb'.out
        · subst h0
          have hb' := Lib.hid hb
          clear hb
          go_wp2
          go_quiet ((go_at_call 31; exact Calls.quiet_of_same (cI _)))
          go_wp2
          go_quiet (fail)
          go_wp2
          go_ret
          exact hfin'.out _ 0 hsc.out (gr_drewN (gr_drewN hg _) _) hb'.out
        · have dx : ((x : Int) == 0) = false := beq_eq_false_iff_ne.2 (by omega)
          have hb' := Lib.hid hb
          clear hb h0
          go_wp2
          go_quiet ((go_at_call 31; exact Calls.quiet_of_same (cI _)))
          go_wp2
          go_quiet (fail)
          go_wp2
          go_ret
          exact hfin'.out _ x hsc.out (gr_drewN (gr_drewN hg _) _) hb'.out
      · have hge' : s.size ≤ A := by omega
        have dl : decide ((A : Int) < (s.size : Int)) = false := decide_eq_false (by omega)
        rcases hbad with ⟨h0, h1, hb⟩ | ⟨h0, h1, h2, hb⟩ | ⟨h0, h1, h2, hb⟩ | ⟨h0, hb⟩
        · subst h0
          have hb' := Lib.hid hb
          clear hb
          go_wp2
          go_quiet (fail)
          go_wp2
          go_quiet (fail)
          go_wp2
          go_ret
          exact hfin'.out _ 30 ((hsc.out.drewN _).bad_) (gr_drewN (gr_set (gr_drewN hg _) _) _) hb'.out
        · subst h0
          have hb' := Lib.hid hb
          clear hb
          go_wp2
          go_quiet (fail)
          go_wp2
          go_quiet (fail)
          go_wp2
          go_ret
          exact hfin'.out _ 30 ((hsc.out.drewN _).bad_) (gr_drewN (gr_set (gr_drewN hg _) _) _) hb'.out
        · subst h0
          have hb' := Lib.hid hb
          clear hb
          go_wp2
          go_quiet (fail)
          go_wp2
          go_quiet (fail)
          go_wp2
          go_ret
          exact hfin'.out _ 0 hsc.out (gr_drewN (gr_drewN hg _) _) hb'.out
        · have dx : ((x : Int) == 0) = false := beq_eq_false_iff_ne.2 (by omega)
          have hb' := Lib.hid hb
          clear hb h0
          go_wp2
          go_quiet (fail)
          go_wp2
          go_quiet (fail)
          go_wp2
          go_ret
          exact hfin'.out _ x hsc.out (gr_drewN (gr_drewN hg _) _) hb'.out
end Go.Proofs.YthkcjfoihieooaaDoor.Li
