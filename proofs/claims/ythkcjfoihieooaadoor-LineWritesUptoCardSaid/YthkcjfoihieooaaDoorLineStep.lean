/-
  HOW THE REFERENCE READS A LINE, STEP BY STEP, IS HOW IT IS READ ('parse'). Nothing of the program is run here.
-/
import Derived.Test.YthkcjfoihieooaaDoorLineValQ
set_option linter.unusedVariables false
namespace Go.Proofs.YthkcjfoihieooaaDoor.Li
open Go.Lib

theorem bad31_ne (x : Nat) : bad31 x ≠ 0 := by unfold bad31; split <;> omega
theorem bad31_le {x : Nat} (h : x ≤ 31) : bad31 x ≤ 31 := by unfold bad31; split <;> omega
theorem badAt_le {x n : Nat} (h : x ≤ 31) : badAt x n ≤ 31 := by unfold badAt; split <;> omega
theorem badAt_of {x n : Nat} (h : x ≠ 0) : badAt x n = x := by unfold badAt; rw [if_neg (fun h' => h h'.1)]
theorem bad31_of {x : Nat} (h : x ≠ 0) : bad31 x = x := by unfold bad31; rw [if_neg h]
/-- the next sign: it, the error, what is behind it -/
def SgR (T t : Row) (x : Nat) (c : UInt8) (x' : Nat) (t' : Row) : Prop :=
  (t.head? = some c ∧ T.contains c = true ∧ x' = x ∧ t' = t.tail) ∨ ((∀ d, t.head? = some d → T.contains d = false) ∧ c = 0 ∧ x' = bad31 x ∧ t' = t)
/-- the next value: it, the error, what is behind it -/
def VlR (t : Row) (x : Nat) (v : Row) (x' : Nat) (t' : Row) : Prop :=
  (t.head? ≠ some 34 ∧ v = mean (t.take (plen plainV t)) ∧ x' = x ∧ t' = t.drop (plen plainV t)) ∨
  (t.head? = some 34 ∧ plen notQ t.tail < t.tail.length ∧ v = mean (t.tail.take (plen notQ t.tail)) ∧ x' = x ∧ t' = t.tail.drop (plen notQ t.tail + 1)) ∨
  (t.head? = some 34 ∧ plen notQ t.tail = t.tail.length ∧ v = [] ∧ x' = bad31 x ∧ t' = [])
theorem sg_in {T t t' : Row} {x : Nat} {c : UInt8} (h : SgR T t x c 0 t') : T.contains c = true ∧ x = 0 ∧ t = c :: t' := by
  rcases h with ⟨h1, h2, h3, h4⟩ | ⟨_, _, h3, _⟩
  · exact ⟨h2, h3.symm, by rw [h4]; exact head_eq h1⟩
  · exact absurd h3.symm (bad31_ne x)
theorem sg_bad {T t t' : Row} {x x' : Nat} {c : UInt8} (h : SgR T t x c x' t') (hx : x ≠ 0) : x' = x := by
  rcases h with ⟨_, _, h3, _⟩ | ⟨_, _, h3, _⟩
  · exact h3
  · rw [h3, bad31_of hx]
theorem sg_no {T t t' : Row} {x' : Nat} {c : UInt8} (h : SgR T t 0 c x' t') (hx : x' ≠ 0) : x' = 31 ∧ ∀ d, t.head? = some d → T.contains d = false := by
  rcases h with ⟨_, _, h3, _⟩ | ⟨h1, _, h3, _⟩
  · exact absurd h3 hx
  · exact ⟨h3, h1⟩
theorem vl_bad {t v t' : Row} {x x' : Nat} (h : VlR t x v x' t') (hx : x ≠ 0) : x' = x := by
  rcases h with ⟨_, _, h, _⟩ | ⟨_, _, _, h, _⟩ | ⟨_, _, _, h, _⟩
  · exact h
  · exact h
  · rw [h, bad31_of hx]
theorem plainV_sep (c : UInt8) : plainV c = !sepB c := Ch.byte_all (P := fun c => plainV c = !sepB c) (by decide +kernel) c
theorem take_plen (p : UInt8 → Bool) (l : Row) : l.take (plen p l) = l.takeWhile p := (List.prefix_iff_eq_take.1 (List.takeWhile_prefix p)).symm
theorem drop_plen (p : UInt8 → Bool) (l : Row) : l.drop (plen p l) = l.dropWhile p := by
  have h := List.takeWhile_append_dropWhile (p := p) (l := l)
  have h2 := List.take_append_drop (plen p l) l
  rw [take_plen] at h2
  exact List.append_cancel_left (h2.trans h.symm)
theorem cut1_plen : ∀ l : Row, cut1 34 l = if plen notQ l < l.length then some (l.take (plen notQ l), l.drop (plen notQ l + 1)) else none
  | [] => rfl
  | x :: r => by
    have ih := cut1_plen r
    by_cases hx : x = 34
    · subst hx
      simp [cut1, plen, notQ]
    · have hq : notQ x = true := by unfold notQ; simpa using hx
      have hp : plen notQ (x :: r) = plen notQ r + 1 := by unfold plen; simp [hq]
      rw [cut1, if_neg hx, ih, hp]
      by_cases hlt : plen notQ r < r.length
      · rw [if_pos hlt, if_pos (by simpa using hlt)]
        simp
      · rw [if_neg hlt, if_neg (by simpa using hlt)]
        rfl
theorem vl_some {t v t' : Row} (h : VlR t 0 v 0 t') : ∃ a, rawC t = some (a, t') ∧ v = mean a := by
  rcases h with ⟨h1, h2, _, h4⟩ | ⟨h1, h2, h3, _, h5⟩ | ⟨_, _, _, h, _⟩
  · refine ⟨_, ?_, h2⟩
    have e : (fun b => !sepB b) = plainV := funext fun c => (plainV_sep c).symm
    unfold rawC
    rw [if_neg h1, e, take_plen, h4, drop_plen]
  · refine ⟨_, ?_, h3⟩
    unfold rawC
    rw [if_pos h1, cut1_plen, if_pos h2, h5]
  · exact absurd h.symm (bad31_ne 0)
theorem vl_none {t v t' : Row} {x' : Nat} (h : VlR t 0 v x' t') (hx : x' ≠ 0) : x' = 31 ∧ rawC t = none := by
  rcases h with ⟨_, _, h, _⟩ | ⟨_, _, _, h, _⟩ | ⟨h1, h2, _, h, _⟩
  · exact absurd h hx
  · exact absurd h hx
  · refine ⟨h, ?_⟩
    unfold rawC
    rw [if_pos h1, cut1_plen, if_neg (by omega)]

/-! ### what will be answered -/
def Out (g n : Row) (acc : List PD) (x : Nat) (c : UInt8) (t : Row) : LR := if x = 0 then fin g n acc (c :: t) else .bad x
def OutV (g n : Row) (acc : List PD) (m : Row) (vs : List Row) (x : Nat) (c : UInt8) (t : Row) : LR :=
  if x = 0 then (if c = 61 ∨ c = 44 then (match vals t with | none => .bad 31 | some (us, r) => fin g n (acc ++ [⟨m, vs ++ us⟩]) r) else fin g n (acc ++ [⟨m, vs⟩]) (c :: t)) else .bad x
theorem out_bad {g n : Row} {acc : List PD} {x : Nat} {c : UInt8} {t : Row} (h : x ≠ 0) : Out g n acc x c t = .bad x := if_neg h
theorem out_ok {g n : Row} {acc : List PD} {t : Row} : Out g n acc 0 58 t = .ok ⟨g, n, acc, t⟩ := by
  unfold Out
  rw [if_pos rfl, fin_end (by simp)]
  rfl
theorem outv_bad {g n : Row} {acc : List PD} {m : Row} {vs : List Row} {x : Nat} {c : UInt8} {t : Row} (h : x ≠ 0) : OutV g n acc m vs x c t = .bad x := if_neg h
theorem outv_end {g n : Row} {acc : List PD} {m : Row} {vs : List Row} {x : Nat} {c : UInt8} {t : Row} (h : ¬ (c = 61 ∨ c = 44)) : OutV g n acc m vs x c t = Out g n (acc ++ [⟨m, vs⟩]) x c t := by
  unfold OutV Out
  rw [if_neg h]
theorem name_bad {t : Row} (h : badAt 0 (nlen t) ≠ 0) : badAt 0 (nlen t) = 30 ∧ nameC t = none := by
  unfold badAt at h ⊢
  split at h
  · rename_i hc
    rw [if_pos hc]
    refine ⟨rfl, ?_⟩
    unfold nameC
    rw [if_pos (by omega)]
  · exact absurd rfl h
theorem name_ok {t : Row} (h : badAt 0 (nlen t) = 0) : nameC t = some (t.take (nlen t), t.drop (nlen t)) := by
  unfold badAt at h
  split at h
  · cases h
  · rename_i hc
    unfold nameC
    rw [if_neg (by omega)]
theorem out_param {g n : Row} {acc : List PD} {t t' : Row} {c : UInt8} {x' : Nat} (h : SgR [61] (t.drop (nlen t)) (badAt 0 (nlen t)) c x' t') :
    Out g n acc 0 59 t = OutV g n acc (t.take (nlen t)) [] x' c t' := by
  have hO : Out g n acc 0 59 t = fin g n acc (59 :: t) := if_pos rfl
  rw [hO]
  by_cases h0 : badAt 0 (nlen t) = 0
  · have hn := name_ok h0
    rw [h0] at h
    by_cases hx : x' = 0
    · subst hx
      obtain ⟨h1, _, h2⟩ := sg_in h
      obtain rfl : c = 61 := by simpa using h1
      unfold OutV
      rw [if_pos rfl, if_pos (.inl rfl)]
      have h61 : (t.drop (nlen t)).head? = some 61 := by rw [h2]; rfl
      have htl : (t.drop (nlen t)).tail = t' := by rw [h2]; rfl
      cases hv : vals t' with
      | none => rw [fin_bad3 (l := 59 :: t) (m := t.take (nlen t)) (r := t.drop (nlen t)) rfl hn h61 (by rw [htl]; exact hv)]
      | some p =>
        obtain ⟨us, r⟩ := p
        rw [fin_more (l := 59 :: t) (m := t.take (nlen t)) (r := t.drop (nlen t)) (r2 := r) (vs := us) rfl hn h61 (by rw [htl]; exact hv)]
        rfl
    · obtain ⟨rfl, h1⟩ := sg_no h hx
      rw [outv_bad (by omega), fin_bad2 (l := 59 :: t) (m := t.take (nlen t)) (r := t.drop (nlen t)) rfl hn]
      intro e
      have := h1 _ e
      revert this; decide
  · obtain ⟨h30, hn⟩ := name_bad h0
    rw [h30] at h
    have hx := sg_bad h (by omega)
    rw [outv_bad (by omega), hx, fin_bad1 (l := 59 :: t) rfl hn]
theorem outv_value {g n : Row} {acc : List PD} {m : Row} {vs : List Row} {x x1 x2 : Nat} {c d : UInt8} {t t1 t2 v : Row} (hc : c = 61 ∨ c = 44) (h1 : VlR t x v x1 t1) (h2 : SgR [44, 59, 58] t1 x1 d x2 t2) :
    OutV g n acc m vs x c t = OutV g n acc m (vs ++ [v]) x2 d t2 := by
  by_cases hx : x = 0
  · subst hx
    have hO : OutV g n acc m vs 0 c t = (match vals t with | none => .bad 31 | some (us, r) => fin g n (acc ++ [⟨m, vs ++ us⟩]) r) := by unfold OutV; rw [if_pos rfl, if_pos hc]
    rw [hO]
    by_cases hx1 : x1 = 0
    · subst hx1
      obtain ⟨a, ha, rfl⟩ := vl_some h1
      by_cases hx2 : x2 = 0
      · subst hx2
        obtain ⟨h3, _, rfl⟩ := sg_in h2
        by_cases h44 : d = 44
        · subst h44
          rw [vals_more ha rfl, List.tail_cons]
          unfold OutV
          rw [if_pos rfl, if_pos (.inr rfl)]
          cases vals t2 with
          | none => rfl
          | some p => simp
        · have hd : ¬ (d = 61 ∨ d = 44) := by
            rintro (rfl | rfl)
            · revert h3; decide
            · exact h44 rfl
          rw [vals_last ha (by simpa using h44)]
          unfold OutV
          rw [if_pos rfl, if_neg hd]
      · obtain ⟨rfl, h3⟩ := sg_no h2 hx2
        have hne : ∀ y : UInt8, [44, 59, 58].contains y = true → t1.head? ≠ some y := fun y hy e => by rw [h3 y e] at hy; cases hy
        rw [vals_last ha (hne 44 (by decide)), outv_bad (by omega)]
        show fin g n (acc ++ [⟨m, vs ++ [mean a]⟩]) t1 = _
        rw [fin_end (hne 59 (by decide)), if_neg (hne 58 (by decide))]
    · obtain ⟨rfl, hr⟩ := vl_none h1 hx1
      have := sg_bad h2 (by omega)
      rw [vals_none hr, outv_bad (by omega), this]
  · have e1 := vl_bad h1 hx
    rw [e1] at h2
    have e2 := sg_bad h2 hx
    rw [outv_bad hx, outv_bad (by omega), e2]
theorem out_start {s t : Row} {c : UInt8} {x : Nat} (hT : Ch.valid s = true ∧ ends s = false) (h : SgR [46, 59, 58] (s.drop (nlen s)) (badAt 0 (nlen s)) c x t) (hc : c ≠ 46) :
    parse s = Out [] (s.take (nlen s)) [] x c t := by
  by_cases h0 : badAt 0 (nlen s) = 0
  · have hn := name_ok h0
    rw [h0] at h
    have hN : (s.drop (nlen s)).head? ≠ some 46 → namesC s = some ([], s.take (nlen s), s.drop (nlen s)) := fun h46 => by
      unfold namesC; rw [hn]; dsimp only; rw [if_neg h46]
    by_cases hx : x = 0
    · subst hx
      obtain ⟨h1, _, h2⟩ := sg_in h
      rw [parse_fin hT (hN (by rw [h2]; simpa using hc)), h2]
      rfl
    · obtain ⟨rfl, h3⟩ := sg_no h hx
      have hne : ∀ y : UInt8, [46, 59, 58].contains y = true → (s.drop (nlen s)).head? ≠ some y := fun y hy e => by rw [h3 y e] at hy; cases hy
      rw [parse_fin hT (hN (hne 46 (by decide))), out_bad (by omega), fin_end (hne 59 (by decide)), if_neg (hne 58 (by decide))]
  · obtain ⟨h30, hn⟩ := name_bad h0
    rw [h30] at h
    have hx := sg_bad h (by omega)
    rw [out_bad (by omega), hx, parse_name hT (by unfold namesC; rw [hn])]
theorem out_group {s t u : Row} {d : UInt8} {x y : Nat} (hT : Ch.valid s = true ∧ ends s = false) (h : SgR [46, 59, 58] (s.drop (nlen s)) (badAt 0 (nlen s)) 46 x t) (h2 : SgR [59, 58] (t.drop (nlen t)) (badAt x (nlen t)) d y u) :
    parse s = Out (s.take (nlen s)) (t.take (nlen t)) [] y d u := by
  by_cases h0 : badAt 0 (nlen s) = 0
  · have hn := name_ok h0
    rw [h0] at h
    have hx : x = 0 ∧ s.drop (nlen s) = 46 :: t := by
      rcases h with ⟨h1, _, h3, h4⟩ | ⟨_, h3, _, _⟩
      · exact ⟨h3, by rw [h4]; exact head_eq h1⟩
      · cases h3
    obtain ⟨rfl, hd⟩ := hx
    have hN : namesC s = (nameC t).map fun p => (s.take (nlen s), p.1, p.2) := by
      unfold namesC; rw [hn]; dsimp only; rw [hd]; rfl
    by_cases h00 : badAt 0 (nlen t) = 0
    · have hn2 := name_ok h00
      rw [h00] at h2
      rw [hn2] at hN
      rw [parse_fin hT hN]
      by_cases hy : y = 0
      · subst hy
        obtain ⟨_, _, h5⟩ := sg_in h2
        show fin _ _ [] (t.drop (nlen t)) = _
        rw [h5]; rfl
      · obtain ⟨rfl, h3⟩ := sg_no h2 hy
        have hne : ∀ y : UInt8, [59, 58].contains y = true → (t.drop (nlen t)).head? ≠ some y := fun y hy e => by rw [h3 y e] at hy; cases hy
        show fin _ _ [] (t.drop (nlen t)) = _
        rw [out_bad (by omega), fin_end (hne 59 (by decide)), if_neg (hne 58 (by decide))]
    · obtain ⟨h30, hn2⟩ := name_bad h00
      rw [h30] at h2
      have hy := sg_bad h2 (by omega)
      rw [out_bad (by omega), hy, parse_name hT (by rw [hN, hn2]; rfl)]
  · obtain ⟨h30, hn⟩ := name_bad h0
    rw [h30] at h
    have hx := sg_bad h (by omega)
    rw [hx, badAt_of (by omega)] at h2
    have hy := sg_bad h2 (by omega)
    rw [out_bad (by omega), hy, parse_name hT (by unfold namesC; rw [hn])]
end Go.Proofs.YthkcjfoihieooaaDoor.Li
