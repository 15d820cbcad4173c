/-
  THE WALK OF CondOrder.
-/
import Derived.Test.YtgpkkdimafmehaaDoorCondFirst
import Derived.Test.YtgpkkdimafmehaaDoorKindInts
set_option linter.unusedVariables false
namespace Go.Proofs.YtgpkkdimafmehaaDoor.Co
open Go.Lib Go.RowKit Go.Shelf

/-- what the two texts are, k tags having come -/
def Two (k : Nat) (a b : Row) (ts : List Nat) : Prop := (k = 0 ∧ a = [] ∧ b = [] ∧ ts = []) ∨ (0 < k ∧ Joined a ts ∧ Woven b ts)
theorem two_more0 {a b : Row} {ts : List Nat} (h : Two 0 a b ts) {n : Nat} (h0 : n ≠ 0) (hn : n ≤ most) : Two 1 (a ++ tagS n) (tagS n ++ [44] ++ tagS n ++ b) (ts ++ [n]) := by
  rcases h with ⟨_, rfl, rfl, rfl⟩ | ⟨h, _⟩
  · refine .inr ⟨Nat.one_pos, joined_one h0 hn, ?_⟩
    have := woven_one h0 hn
    simpa using this
  · omega
theorem two_more {k : Nat} {a b : Row} {ts : List Nat} (h : Two k a b ts) (hk : k ≠ 0) {n : Nat} (h0 : n ≠ 0) (hn : n ≤ most) : Two (k + 1) (a ++ [44] ++ tagS n) (tagS n ++ [44] ++ tagS n ++ ([9, 44, 32] ++ b)) (ts ++ [n]) := by
  rcases h with ⟨h, _⟩ | ⟨_, h1, h2⟩
  · exact absurd h hk
  · refine .inr ⟨by omega, ?_, ?_⟩
    · have := joined_more h1 h0 hn
      simpa using this
    · have := woven_more h2 h0 hn
      simpa using this
theorem inR_snoc (ts : List Nat) (n : Nat) (t : Int) : inR (ts ++ [n]) t = (inR ts t || decide ((n : Int) = t)) := by
  unfold inR
  rw [List.any_append]; simp
theorem two_hol {k : Nat} {a b : Row} {ts : List Nat} (h : Two k a b ts) (hk : k ≠ 0) {t : Int} (ht : 1 ≤ t) : hol a [] t = some (inR ts t) ∧ hol b [] t = some (inR ts t) ∧ hol [] b t = some (!inR ts t) := by
  rcases h with ⟨h, _⟩ | ⟨_, h1, h2⟩
  · exact absurd h hk
  · obtain ⟨u, rfl⟩ : ∃ u : Nat, t = (u : Int) := ⟨t.toNat, by omega⟩
    have e : inR ts (u : Int) = decide (u ∈ ts) := any_mem ts u
    rw [e]
    exact ⟨joined_hol h1 (by omega), woven_hol h2 (by omega)⟩

def OrdRel (w : World) (zs : List Int) (t : Int) (s5 s6 s7 s8 s21 : Value) (wr : World) : Prop :=
  ∃ (k : Nat) (a b : ByteArray) (h : Bool) (ts : List Nat), s5 = .string a ∧ s6 = .string b ∧ s7 = .bool h ∧ s8 = .int .i64 (k : Int) ∧ s21 = .int .i64 (k : Int) ∧ k ≤ zs.length ∧ k ≤ 20 ∧
    Two k a.data.toList b.data.toList ts ∧ a.size ≤ 40 * k ∧ b.size ≤ 80 * k ∧ h = inR ts t ∧ Below w.heap.size w wr

set_option maxHeartbeats 16000000 in
set_option maxRecDepth 100000 in
theorem order_walk (v : Value) (zs : List Int) (t : Int) (w : World) (hv : La.IntsAt w v zs) (hP : Ch.Pow w) :
    Calls Tryd.prog 6 #[v, .int .i64 t] w fun e w' => e = .returned (.bool true) ∧ Below w.heap.size w w' := by
  have cF := first_any w hP
  have hP' := Lib.hid hP
  obtain ⟨p0, bl0, off, cap, rfl, hlen, hp0, hcell, hzb⟩ := hv
  have hp0' := Lib.hid hp0
  have hcell' := Lib.hid hcell
  have hzb' := Lib.hid hzb
  clear hP hp0 hcell hzb
  go_enter Tryd.func6, Tryd.ntmps6
  go_wp2_with fail
  go_at_call 7
  refine cF.mono ?_
  rintro e w1 ⟨rfl, hb1⟩
  clear cF
  go_wp2
  go_loopw [5, 6, 7, 8, 9, 10, 21] (fun s5 s6 s7 s8 s9 s10 s21 wr => OrdRel w zs t s5 s6 s7 s8 s21 wr) (fun s5 s6 s7 s8 s9 s10 s21 wr => zs.length - (RowKit.intOf s21).toNat)
  case atStart => exact ⟨0, ⟨#[]⟩, ⟨#[]⟩, false, [], rfl, rfl, rfl, rfl, rfl, Nat.zero_le _, Nat.zero_le _, .inl ⟨rfl, rfl, rfl, rfl⟩, Nat.zero_le _, Nat.zero_le _, rfl, hb1⟩
  case round =>
    obtain ⟨k, a, b, h, ts, rfl, rfl, rfl, rfl, rfl, hk, hk20, htwo, has, hbs, hh, hbr⟩ := hrel
    have hh' := Lib.hid hh
    have htwo' := Lib.hid htwo
    clear hh htwo hb1
    by_cases hgo : ∃ hlt : k < zs.length, k < 20 ∧ 1 ≤ zs.getD k 0 ∧ zs.getD k 0 ≤ 4611686018427387904
    · obtain ⟨hlt, hlt20, hz1, hz2⟩ := hgo
      obtain ⟨rfl, hbl⟩ := hp0'.out (fun e => by rw [e] at hlt; simp at hlt)
      have hx : wr.cell? ⟨bl0, off + k, none⟩ = some (.int .i64 (zs.getD k 0)) := (hbr.cell (p := ⟨bl0, off + k, none⟩) hbl).trans (hcell'.out k hlt)
      generalize zs.getD k 0 = z at hz1 hz2 hx
      obtain ⟨n, hn⟩ : ∃ n : Nat, z = (n : Int) := ⟨z.toNat, by omega⟩
      obtain ⟨T, hT, hTl⟩ := sv_some (tagI z)
      have cT : ∀ W, Ch.Pow W → Calls Tryd.prog 8 #[.int .i64 z] W fun e w' => e = .returned (.string T) ∧ Below W.heap.size W w' := fun W hW => by rw [← hT]; exact tag_any z W (by omega) hW
      have hTn : T.data.toList = tagS n := by
        rw [hTl]
        unfold tagI
        rw [if_neg (by omega), hn]; rfl
      have hTs : T.size ≤ 22 := by rw [Lib.size_eq, hTn]; exact tag_len (by omega)
      have hnx : inR (ts ++ [n]) t = (h || decide (z = t)) := by rw [inR_snoc, ← hh'.out, hn]
      have hnx' := Lib.hid hnx
      have hTn' := Lib.hid hTn
      have hn0 : n ≠ 0 := by omega
      have hnm : n ≤ most := by unfold most; omega
      have c1 : ¬ z < 1 := by omega
      have c2 : ¬ 4611686018427387904 < z := by omega
      have c3 : ¬ (20 : Int) ≤ (k : Int) := by omega
      have hwk : IntKind.i64.wrap ((k : Int) + 1) = (k : Int) + 1 := IntWalk.i64_in _ (by omega)
      have z1 : (⟨#[44]⟩ : ByteArray).size = 1 := rfl
      have z3 : (⟨#[9, 44, 32]⟩ : ByteArray).size = 3 := rfl
      have f1 : ¬ 9223372036854775807 < a.size + (⟨#[44]⟩ : ByteArray).size := by omega
      have f2 : ¬ 9223372036854775807 < (⟨#[9, 44, 32]⟩ : ByteArray).size + b.size := by omega
      have f3 : ¬ 9223372036854775807 < (a ++ ⟨#[44]⟩).size + T.size := by rw [ByteArray.size_append]; omega
      have f4 : ¬ 9223372036854775807 < T.size + (⟨#[44]⟩ : ByteArray).size := by omega
      have f5 : ¬ 9223372036854775807 < (T ++ ⟨#[44]⟩).size + T.size := by rw [ByteArray.size_append]; omega
      have f6 : ¬ 9223372036854775807 < (T ++ ⟨#[44]⟩ ++ T).size + (⟨#[9, 44, 32]⟩ ++ b).size := by rw [ByteArray.size_append, ByteArray.size_append, ByteArray.size_append]; omega
      have f7 : ¬ 9223372036854775807 < a.size + T.size := by omega
      have f8 : ¬ 9223372036854775807 < (T ++ ⟨#[44]⟩ ++ T).size + b.size := by rw [ByteArray.size_append, ByteArray.size_append]; omega
      have hrel1 : k ≠ 0 → ∀ w3, Below w.heap.size w w3 → OrdRel w zs t (.string (a ++ ⟨#[44]⟩ ++ T)) (.string (T ++ ⟨#[44]⟩ ++ T ++ (⟨#[9, 44, 32]⟩ ++ b))) (.bool (h || decide (z = t))) (.int .i64 ((k : Int) + 1)) (.int .i64 ((k : Int) + 1)) w3 := fun hk0 w3 hb3 => by
        refine ⟨k + 1, _, _, _, ts ++ [n], rfl, rfl, rfl, by simp, by simp, by omega, by omega, ?_, ?_, ?_, hnx'.out.symm, hb3⟩
        · have := two_more htwo'.out hk0 hn0 hnm
          rw [← hTn'.out] at this
          simpa [ByteArray.data_append] using this
        · rw [ByteArray.size_append, ByteArray.size_append]; omega
        · rw [ByteArray.size_append, ByteArray.size_append, ByteArray.size_append, ByteArray.size_append]; omega
      have hrel0 : k = 0 → ∀ w3, Below w.heap.size w w3 → OrdRel w zs t (.string (a ++ T)) (.string (T ++ ⟨#[44]⟩ ++ T ++ b)) (.bool (h || decide (z = t))) (.int .i64 ((k : Int) + 1)) (.int .i64 ((k : Int) + 1)) w3 := fun hk0 w3 hb3 => by
        refine ⟨k + 1, _, _, _, ts ++ [n], rfl, rfl, rfl, by simp, by simp, by omega, by omega, ?_, ?_, ?_, hnx'.out.symm, hb3⟩
        · have h2 := htwo'.out
          rw [hk0] at h2 ⊢
          have := two_more0 h2 hn0 hnm
          rw [← hTn'.out] at this
          simpa [ByteArray.data_append] using this
        · rw [ByteArray.size_append]; omega
        · rw [ByteArray.size_append, ByteArray.size_append, ByteArray.size_append]; omega
      have hrel1' := Lib.hid hrel1
      have hrel0' := Lib.hid hrel0
      clear hrel1 hrel0 hT hTl hTn hnx hn hn0 hnm hTs has hbs z1 z3
      have hhz : (h = true) ∨ (h = false ∧ (z == t) = true ∧ z = t) ∨ (h = false ∧ (z == t) = false ∧ z ≠ t) := by
        cases h
        · by_cases e : z = t
          · exact .inr (.inl ⟨rfl, by simp [e], e⟩)
          · exact .inr (.inr ⟨rfl, by simp [e], e⟩)
        · exact .inl rfl
      by_cases hk0 : k = 0
      · have e0 : ¬ (0 : Int) < (k : Int) := by omega
        have hfin := Lib.hid (hrel0'.out hk0)
        clear hk0 hrel0' hrel1'
        rcases hhz with rfl | ⟨rfl, hzt, hze⟩ | ⟨rfl, hzt, hze⟩
        case' inl => rw [Bool.true_or] at hfin
        case' inr.inl => rw [Bool.false_or, decide_eq_true hze] at hfin; clear hze
        case' inr.inr => rw [Bool.false_or, decide_eq_false hze] at hfin; clear hze
        all_goals
          go_wp2_with fail
          go_at_call 8
          refine (cT _ (Ch.pow_below hP'.out hbr)).mono ?_
          rintro e w3 ⟨rfl, hb3⟩
          have hbr3 := below_then hbr hb3
          go_wp2_with fail
          go_at_call 8
          refine (cT _ (Ch.pow_below hP'.out hbr3)).mono ?_
          rintro e w4 ⟨rfl, hb4⟩
          have hbr4 := below_then hbr3 hb4
          go_wp2_with fail
          go_at_call 8
          refine (cT _ (Ch.pow_below hP'.out hbr4)).mono ?_
          rintro e w5 ⟨rfl, hb5⟩
          have hbr5 := below_then hbr4 hb5
          clear hb3 hb4 hb5
          go_wp2
          go_roundw
          case rel => exact hfin.out _ hbr5
          case measure => simp [RowKit.intOf]; omega
      · have e0 : (0 : Int) < (k : Int) := by omega
        have hfin := Lib.hid (hrel1'.out hk0)
        clear hk0 hrel0' hrel1'
        rcases hhz with rfl | ⟨rfl, hzt, hze⟩ | ⟨rfl, hzt, hze⟩
        case' inl => rw [Bool.true_or] at hfin
        case' inr.inl => rw [Bool.false_or, decide_eq_true hze] at hfin; clear hze
        case' inr.inr => rw [Bool.false_or, decide_eq_false hze] at hfin; clear hze
        all_goals
          go_wp2_with fail
          go_at_call 8
          refine (cT _ (Ch.pow_below hP'.out hbr)).mono ?_
          rintro e w3 ⟨rfl, hb3⟩
          have hbr3 := below_then hbr hb3
          go_wp2_with fail
          go_at_call 8
          refine (cT _ (Ch.pow_below hP'.out hbr3)).mono ?_
          rintro e w4 ⟨rfl, hb4⟩
          have hbr4 := below_then hbr3 hb4
          go_wp2_with fail
          go_at_call 8
          refine (cT _ (Ch.pow_below hP'.out hbr4)).mono ?_
          rintro e w5 ⟨rfl, hb5⟩
          have hbr5 := below_then hbr4 hb5
          clear hb3 hb4 hb5
          go_wp2
          go_roundw
          case rel => exact hfin.out _ hbr5
          case measure => simp [RowKit.intOf]; omega
    · have hway : (¬ (k : Int) < (zs.length : Int)) ∨ ∃ z : Int, (k : Int) < (zs.length : Int) ∧ p0 = some ⟨bl0, off, none⟩ ∧ wr.cell? ⟨bl0, off + k, none⟩ = some (.int .i64 z) ∧ ((20 : Int) ≤ (k : Int) ∨ (¬ (20 : Int) ≤ (k : Int) ∧ z < 1) ∨ (¬ (20 : Int) ≤ (k : Int) ∧ ¬ z < 1 ∧ 4611686018427387904 < z)) := by
        by_cases h1 : k < zs.length
        · have hq := hp0'.out (fun e => by rw [e] at h1; simp at h1)
          refine .inr ⟨_, by omega, hq.1, (hbr.cell (p := ⟨bl0, off + k, none⟩) hq.2).trans (hcell'.out k h1), ?_⟩
          by_cases h2 : k < 20
          · by_cases h3 : zs.getD k 0 < 1
            · exact .inr (.inl ⟨by omega, h3⟩)
            · refine .inr (.inr ⟨by omega, h3, ?_⟩)
              by_cases h4 : zs.getD k 0 ≤ 4611686018427387904
              · exact absurd ⟨h1, h2, by omega, h4⟩ hgo
              · omega
          · exact .inl (by omega)
        · exact .inl (by omega)
      have hend : (k = 0 ∧ ((k : Int) == 0) = true) ∨ (((k : Int) == 0) = false ∧ t < 1) ∨ (((k : Int) == 0) = false ∧ ¬ t < 1 ∧ hol a.data.toList [] t = some h ∧ hol b.data.toList [] t = some h ∧ hol [] b.data.toList t = some (!h)) := by
        by_cases h1 : k = 0
        · exact .inl ⟨h1, by simp [h1]⟩
        · by_cases h2 : t < 1
          · exact .inr (.inl ⟨by simp; exact h1, h2⟩)
          · have := two_hol htwo'.out h1 (t := t) (by omega)
            rw [← hh'.out] at this
            exact .inr (.inr ⟨by simp; exact h1, h2, this⟩)
      have hn : (⟨#[]⟩ : ByteArray).data.toList = [] := rfl
      have cA := fun W => holds_any a ⟨#[]⟩ t W (by omega) (by decide)
      have cB := fun W => holds_any b ⟨#[]⟩ t W (by omega) (by decide)
      have cC := fun W => holds_any ⟨#[]⟩ b t W (by decide) (by omega)
      rw [hn] at cA cB cC
      clear hgo htwo' hh' hn has hbs
      rcases hend with ⟨hk0, h1⟩ | ⟨h1, h2⟩ | ⟨h1, h2, e1, e2, e3⟩
      case' inl => clear cA cB cC
      case' inr.inl => clear cA cB cC
      case' inr.inr =>
        rw [e1] at cA
        rw [e2] at cB
        rw [e3] at cC
        clear e1 e2 e3
        unfold namE at cA cB cC
        cases h
      all_goals
        rcases hway with hz | ⟨z, hz, rfl, hx, (c1 | ⟨c1, c2⟩ | ⟨c1, c2, c3⟩)⟩
      all_goals try (clear hk0)
      all_goals
        first
          | (go_wp2
             go_ret
             exact ⟨rfl, hbr⟩)
          | (go_wp2_with fail
             go_at_call 14
             refine (cA _).mono ?_
             rintro e w3 ⟨rfl, hb3⟩
             go_wp2_with fail
             go_at_call 14
             refine (cB _).mono ?_
             rintro e w4 ⟨rfl, hb4⟩
             go_wp2_with fail
             go_at_call 14
             refine (cC _).mono ?_
             rintro e w5 ⟨rfl, hb5⟩
             have hbr5 := below_then (below_then (below_then hbr hb3) hb4) hb5
             clear hb3 hb4 hb5 cA cB cC
             go_wp2
             go_ret
             exact ⟨rfl, hbr5⟩)
          | (go_wp2; done)
end Go.Proofs.YtgpkkdimafmehaaDoor.Co
