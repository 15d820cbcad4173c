/-
  THE LAW LineReads.
-/
import Derived.Test.YthkcjfoihieooaaDoorLineFirst
import Derived.Test.YthkcjfoihieooaaDoorLineEq
import Derived.Test.YthkcjfoihieooaaDoorLineRefParse
import Derived.Test.YthkcjfoihieooaaDoorLineRefPrint
set_option linter.unusedVariables false
namespace Go.Proofs.YthkcjfoihieooaaDoor.Li
open Go.Lib Go.RowKit Bu

/-! ### how long a line that was read is, printed -/
theorem vals_pr : ∀ (n : Nat) {l r : Row} {vs : List Row} (m : UInt8), l.length ≤ n → vals l = some (vs, r) → (wvs m vs).length + 3 * r.length ≤ 3 * l.length + 3 ∧ r.length ≤ l.length
  | n, l, r, vs, m, hn, h => by
    cases hr : rawC l with
    | none => rw [vals_none hr] at h; cases h
    | some p =>
      obtain ⟨a, q⟩ := p
      obtain ⟨⟨p1, q1, e, _⟩, hl⟩ := rawC_tells hr
      have hlen := congrArg List.length e
      simp only [List.length_append] at hlen
      have hm := mean_len a
      have hw := wval_len (mean a)
      by_cases hc : q.head? = some 44
      · have hlt := tail_lt hc
        rw [vals_more hr hc] at h
        obtain ⟨⟨us, u⟩, hu, he⟩ := Option.map_eq_some_iff.1 h
        simp only [Prod.mk.injEq] at he
        obtain ⟨rfl, rfl⟩ := he
        match n, hn with
        | 0, hn => omega
        | n + 1, hn =>
          obtain ⟨h1, h2⟩ := vals_pr n 44 (by omega) hu
          simp only [wvs, List.length_cons, List.length_append]
          omega
      · rw [vals_last hr hc] at h
        have h := Option.some.inj h
        simp only [Prod.mk.injEq] at h
        obtain ⟨rfl, rfl⟩ := h
        simp only [wvs, List.length_cons, List.length_append, List.length_nil]
        omega
theorem prms_pr : ∀ (n : Nat) {l r : Row} {ps : List PD}, l.length ≤ n → prms l = .ok ps r → (wprms ps).length + 3 * r.length ≤ 3 * l.length
  | n, l, r, ps, hn, h => by
    by_cases h59 : l.head? = some 59
    · have hlt := tail_lt h59
      cases hnc : nameC l.tail with
      | none => rw [prms_bad1 h59 hnc] at h; cases h
      | some q =>
        obtain ⟨m, r1⟩ := q
        have hl1 := congrArg List.length (nameC_some hnc).1
        rw [List.length_append] at hl1
        by_cases h61 : r1.head? = some 61
        · have hlt1 := tail_lt h61
          cases hv : vals r1.tail with
          | none => rw [prms_bad3 h59 hnc h61 hv] at h; cases h
          | some q =>
            obtain ⟨vs, r2⟩ := q
            obtain ⟨h1, h2⟩ := vals_pr _ 61 (Nat.le_refl _) hv
            rw [prms_more h59 hnc h61 hv] at h
            cases hp : prms r2 with
            | bad e => rw [hp] at h; cases h
            | ok qs u =>
              rw [hp] at h
              simp only [PR.more, PR.ok.injEq] at h
              obtain ⟨rfl, rfl⟩ := h
              match n, hn with
              | 0, hn => omega
              | n + 1, hn =>
                have i1 := prms_pr n (by omega) hp
                rw [wprms_cons, List.length_append]
                unfold wprm
                simp only [List.length_cons, List.length_append]
                omega
        · rw [prms_bad2 h59 hnc h61] at h; cases h
    · rw [prms_end h59] at h
      simp only [PR.ok.injEq] at h
      obtain ⟨rfl, rfl⟩ := h
      simp [wprms]
theorem parse_len {s : Row} {L : LD} (h : parse s = .ok L) : (pr L).length ≤ 3 * s.length := by
  unfold parse at h
  split at h
  · cases hn : namesC s with
    | none => rw [hn] at h; cases h
    | some p =>
      obtain ⟨g, n, r⟩ := p
      rw [hn] at h
      dsimp only at h
      have hg : (if g = [] then n else g ++ 46 :: n).length + r.length ≤ s.length := by
        unfold namesC at hn
        cases hc : nameC s with
        | none => rw [hc] at hn; cases hn
        | some p =>
          obtain ⟨m, q⟩ := p
          have h1 := congrArg List.length (nameC_some hc).1
          rw [List.length_append] at h1
          rw [hc] at hn
          dsimp only at hn
          split at hn
          · rename_i h46
            obtain ⟨⟨p1, p2⟩, hp, he⟩ := Option.map_eq_some_iff.1 hn
            simp only [Prod.mk.injEq] at he
            obtain ⟨rfl, rfl, rfl⟩ := he
            have h2 := congrArg List.length (nameC_some hp).1
            have h3 := tail_lt h46
            rw [List.length_append] at h2
            split
            · omega
            · simp only [List.length_append, List.length_cons]; omega
          · have hn := Option.some.inj hn
            simp only [Prod.mk.injEq] at hn
            obtain ⟨rfl, rfl, rfl⟩ := hn
            rw [if_pos rfl]; omega
      unfold fin at h
      cases hp : prms r with
      | bad e => rw [hp] at h; cases h
      | ok ps q =>
        rw [hp] at h
        dsimp only at h
        split at h
        · rename_i h58
          simp only [LR.ok.injEq] at h
          subst h
          have h1 := prms_pr _ (Nat.le_refl _) hp
          have h2 := tail_lt h58
          unfold pr
          simp only [List.nil_append, List.length_append, List.length_cons]
          omega
        · cases h
  · cases h

/-! ### what was read -/
def zeroLD : LD := ⟨[], [], [], []⟩
theorem zero_at (w : World) : LineAt w (.agg #[.string ⟨#[]⟩, .string ⟨#[]⟩, .slice none 0 0, .string ⟨#[]⟩]) zeroLD :=
  ⟨_, rfl, none, 0, 0, 0, rfl, by simp [zeroLD], by unfold maxLen; omega, fun h => absurd h (by simp [zeroLD]), fun j p hj => by simp [zeroLD] at hj⟩
def CodeR (t : Row) (L : LD) (n : Nat) : Prop := (n = 0 ∧ parse t = .ok L) ∨ (n ≠ 0 ∧ parse t = .bad n ∧ L = zeroLD)
theorem CodeR.one {t : Row} {L M : LD} {n m : Nat} (h : CodeR t L n) (k : CodeR t M m) : L = M ∧ n = m := by
  rcases h with ⟨h1, h2⟩ | ⟨h1, h2, h3⟩ <;> rcases k with ⟨k1, k2⟩ | ⟨k1, k2, k3⟩
  · rw [h2] at k2; exact ⟨LR.ok.inj k2, by omega⟩
  · rw [h2] at k2; cases k2
  · rw [h2] at k2; cases k2
  · rw [h2] at k2; exact ⟨by rw [h3, k3], LR.bad.inj k2⟩
theorem ParseP.read {B : Nat} {t : Row} {e : Ending} {w' : World} (h : ParseP B t e w') : ∃ (L : LD) (v : Value) (n : Nat), e = .returned (.tuple #[v, .int .i64 (n : Int)]) ∧ n < 100 ∧ LineAt w' v L ∧ CodeR t L n := by
  rcases h with ⟨n, h1, h2, h3, h4⟩ | ⟨L, v, h1, h2, h3⟩
  · exact ⟨zeroLD, _, n, h4, h3, zero_at w', .inr ⟨h2, h1, rfl⟩⟩
  · exact ⟨L, v, 0, h2, by omega, h3.at, .inl ⟨rfl, h1⟩⟩
theorem LineAt.box {w : World} {v : Value} {L : LD} (h : LineAt w v L) : ∃ (g n x : ByteArray) (A : Option Addr) (l c : Nat), v = .agg #[.string g, .string n, .slice A l c, .string x] := by
  obtain ⟨pv, rfl, A, b, o, c, rfl, _⟩ := h
  exact ⟨_, _, _, A, _, c, rfl⟩
theorem SameP.same {L : LD} {e : Ending} (h : SameP L L e) : e = .returned (.bool true) := by
  obtain ⟨R, rfl, hR⟩ := h
  rw [hR.2 rfl]
theorem mem_at {α : Type} {x : α} : ∀ {l : List α}, x ∈ l → ∃ i : Nat, l[i]? = some x
  | [], h => by cases h
  | y :: l, h => by
    rcases List.mem_cons.1 h with rfl | h
    · exact ⟨0, rfl⟩
    · obtain ⟨i, hi⟩ := mem_at h
      exact ⟨i + 1, hi⟩
theorem small_pr {L : LD} (h : (pr L).length ≤ 140737488355328) : SmallL L := by
  unfold pr at h
  simp only [List.length_append, List.length_cons] at h
  refine ⟨?_, ?_, by omega, fun p hp => ?_⟩
  · split at h
    · rename_i hg; rw [hg]; simp
    · simp only [List.length_append, List.length_cons] at h; omega
  · split at h
    · omega
    · simp only [List.length_append, List.length_cons] at h; omega
  · obtain ⟨k, hk⟩ := mem_at hp
    have h1 := wprm_le L k p hk
    have h2 : (wprm p).length = 1 + p.name.length + (wvs 61 p.vals).length := by unfold wprm; rw [List.length_cons, List.length_append]; omega
    refine ⟨by omega, fun v hv => ?_⟩
    obtain ⟨i, hi⟩ := mem_at hv
    have h3 := wval_le p.vals i v hi
    have h4 := esc_wval v
    have h5 := esc_ge v
    omega

set_option maxHeartbeats 8000000 in
set_option maxRecDepth 100000 in
theorem reads_walk (s : ByteArray) (w : World) (hT : Ch.Tabs w) (hs : s.size ≤ 1048576) :
    Calls Tryd.prog 3 #[.string s] w fun e w' => e = .returned (.bool true) ∧ Below w.heap.size w w' := by
  have hT' := Lib.hid hT
  clear hT
  go_enter Tryd.func3, Tryd.ntmps3
  go_wp2_with (go_at_call 8; refine (first_any w hT'.out).mono ?_; rintro e w1 ⟨rfl, hb1⟩)
  go_at_call 9
  refine (parse_any s w1 (Ch.tabs_below hT'.out hb1) (by omega)).mono ?_
  rintro e w2 ⟨hP, hb0⟩
  obtain ⟨L, v1, n, rfl, hn, hL1, hc1⟩ := hP.read
  obtain ⟨g1, m1, x1, A1, l1, c1, rfl⟩ := hL1.box
  have hb2 := below_then hb1 hb0
  have hc1' := Lib.hid hc1
  clear hP hb0 hb1 hc1
  go_wp2_with fail
  obtain ⟨wA, hwA⟩ : ∃ wA, w2.alloc (.cells #[.string g1, .string m1, .slice A1 l1 c1, .string x1] 25) = wA := ⟨_, rfl⟩
  have hbA : Below w2.heap.size w2 wA := by rw [← hwA]; exact (Below.refl _ _).alloc (Nat.le_refl _) _
  have hkA : wA.heap[w2.heap.size]? = some (.cells #[.string g1, .string m1, .slice A1 l1 c1, .string x1] 25 (0, 0)) := by rw [← hwA]; exact heap_alloc_new w2 _
  rw [hwA]
  have hLA := hL1.kept hbA
  have hB := below_then hb2 hbA
  have hzA : w2.heap.size < wA.heap.size := (Array.getElem?_eq_some_iff.1 hkA).1
  have hkA' := Lib.hid hkA
  clear hwA hbA hkA hL1 hb2
  go_at_call 10
  refine (refParse_any s wA (by omega)).mono ?_
  rintro e w3 ⟨hP, hb0⟩
  obtain ⟨L2, v2, n2, rfl, hn2, hL2, hc2⟩ := hP.read
  obtain ⟨rfl, rfl⟩ := hc1'.out.one hc2
  obtain ⟨g2, m2, x2, A2, l2, c2, rfl⟩ := hL2.box
  have hb3 := below_then hB hb0
  have hzA3 : w2.heap.size < w3.heap.size := Nat.lt_of_lt_of_le hzA hb0.size
  have hkA3 := (hb0.block _ hzA).trans hkA'.out
  have hLA3 := hLA.kept hb0
  clear hP hc2 hn2 hb0 hkA' hzA hB hLA
  obtain ⟨wB, hwB⟩ : ∃ wB, w3.alloc (.cells #[.string g2, .string m2, .slice A2 l2 c2, .string x2] 25) = wB := ⟨_, rfl⟩
  have hbB : Below w3.heap.size w3 wB := by rw [← hwB]; exact (Below.refl _ _).alloc (Nat.le_refl _) _
  have hkB : wB.heap[w3.heap.size]? = some (.cells #[.string g2, .string m2, .slice A2 l2 c2, .string x2] 25 (0, 0)) := by rw [← hwB]; exact heap_alloc_new w3 _
  have hkA := (hbB.block _ hzA3).trans hkA3
  have hLA := hLA3.kept hbB
  have hLB := hL2.kept hbB
  have hB := below_then hb3 hbB
  have hzB : w3.heap.size < wB.heap.size := (Array.getElem?_eq_some_iff.1 hkB).1
  obtain ⟨a0, a1, a2, a3, _, _, _, _⟩ := res4 hkA
  obtain ⟨b0, b1, b2, b3, _, _, _, _⟩ := res4 hkB
  have hkA' := Lib.hid hkA
  have hkB' := Lib.hid hkB
  have hlt3 := Lib.hid hzA3
  clear hbB hkA hkB hkA3 hLA3 hL2 hb3
  go_wp2_with fail
  first | go_at_call 11 | skip
  clear hwB
  refine (refSame_any _ _ L L wB hLA hLB).mono ?_
  rintro e w4 ⟨hS, hb4⟩
  obtain rfl := hS.same
  have hB4 := below_then hB hb4
  clear hS a0 a1 a2 a3 b0 b1 b2 b3
  go_wp2_with fail
  first | go_at_call 12 | skip
  refine (name_any s w4 (by omega)).mono ?_
  rintro e w5 ⟨rfl, hb5⟩
  have hB5 := below_then hB4 hb5
  have hb45 := below_then hb4 hb5
  go_wp2_with fail
  first | go_at_call 13 | skip
  refine (refName_any s w5 (by omega)).mono ?_
  rintro e w6 ⟨rfl, rfl⟩
  clear hb4 hb5 hB4
  obtain ⟨R, hR⟩ : ∃ R, nameB s.data.toList = R := ⟨_, rfl⟩
  rw [hR]
  clear hR
  rcases hc1'.out with ⟨rfl, hok⟩ | ⟨h0, _, _⟩
  · have hG := good_parse hok
    have hpl := parse_len hok
    rw [← Lib.size_eq] at hpl
    have hkA5 := (hb45.block _ (Nat.lt_trans hlt3.out hzB)).trans hkA'.out
    have hkB5 := (hb45.block _ hzB).trans hkB'.out
    have hLA5 := hLA.kept hb45
    have hLB5 := hLB.kept hb45
    have hz5 : w3.heap.size < w5.heap.size := Nat.lt_of_lt_of_le hzB hb45.size
    obtain ⟨a0, a1, a2, a3, _, _, _, _⟩ := res4 hkA5
    have hG' := Lib.hid hG
    have hpl' := Lib.hid hpl
    have cP := print_any _ L w5 hLA5 (small_pr (by omega)) (by omega) (Ch.tabs_below hT'.out hB5)
    have hkA6 := Lib.hid hkA5
    have hkB6 := Lib.hid hkB5
    clear hok hG hpl hkA5 hkB5 hLA hLB hb45 hkA' hkB'
    have hRR : (R != R) = false := by cases R <;> rfl
    go_wp2_with fail
    go_at_call 14
    refine cP.mono ?_
    rintro e w7 ⟨hPr, hb7⟩
    clear cP a0 a1 a2 a3
    rcases hPr with ⟨h0, _⟩ | ⟨_, p, hp, rfl⟩
    · exact absurd (chk_good hG'.out) h0
    · have hps : p.size ≤ 3145728 := by rw [Lib.size_eq, hp]; have := hpl'.out; omega
      have hp' := Lib.hid hp
      have hB7 := below_then hB5 hb7
      clear hp
      go_wp2_with fail
      go_at_call 9
      refine (parse_any p w7 (Ch.tabs_below hT'.out hB7) (by omega)).mono ?_
      rintro e w8 ⟨hP, hb8⟩
      obtain ⟨M, v3, n3, rfl, hn3, hL3, hc3⟩ := hP.read
      have hpp : CodeR p.data.toList L 0 := .inl ⟨rfl, by rw [hp'.out]; exact parse_pr L hG'.out⟩
      obtain ⟨rfl, rfl⟩ := hpp.one hc3
      obtain ⟨g3, m3, x3, A3, l3, c3, rfl⟩ := hL3.box
      have hb78 := below_then hb7 hb8
      have hB8 := below_then hB7 hb8
      have hz58 := hb78.size
      obtain ⟨wC, hwC⟩ : ∃ wC, w8.alloc (.cells #[.string g3, .string m3, .slice A3 l3 c3, .string x3] 25) = wC := ⟨_, rfl⟩
      have hbC : Below w8.heap.size w8 wC := by rw [← hwC]; exact (Below.refl _ _).alloc (Nat.le_refl _) _
      have hkC : wC.heap[w8.heap.size]? = some (.cells #[.string g3, .string m3, .slice A3 l3 c3, .string x3] 25 (0, 0)) := by rw [← hwC]; exact heap_alloc_new w8 _
      have h5C := below_then hb78 hbC
      have hkA := (h5C.block _ (Nat.lt_trans hlt3.out hz5)).trans hkA6.out
      have hkB := (h5C.block _ hz5).trans hkB6.out
      have hLA := hLA5.kept h5C
      have hLB := hLB5.kept h5C
      have hLC := hL3.kept hbC
      have hBC := below_then hB8 hbC
      have hzC : w8.heap.size < wC.heap.size := (Array.getElem?_eq_some_iff.1 hkC).1
      have hzBC : w3.heap.size < wC.heap.size := (Array.getElem?_eq_some_iff.1 hkB).1
      have hzAC : w2.heap.size < wC.heap.size := (Array.getElem?_eq_some_iff.1 hkA).1
      obtain ⟨a0, a1, a2, a3, _, _, _, _⟩ := res4 hkA
      obtain ⟨b0, b1, b2, b3, _, _, _, _⟩ := res4 hkB
      have hkA' := Lib.hid hkA
      have hkC' := Lib.hid hkC
      have hkB' := Lib.hid hkB
      have cR := refPrint_any _ L wC hLB (fun q hq => (hG'.out.params q hq).2.1) (by have := hpl'.out; omega)
      clear hP hn3 hc3 hpp hb7 hb8 hB7 hbC hkC h5C hkA hkB hLA5 hLB5 hL3 hB8 hz58
      go_wp2_with fail
      first | go_at_call 15 | skip
      clear hwC
      refine cR.mono ?_
      rintro e w9 ⟨⟨q, hq, rfl⟩, hb9⟩
      obtain rfl : p = q := sv_eq hp'.out hq rfl
      have hkA9 := (hb9.block _ hzAC).trans hkA'.out
      have hkB9 := (hb9.block _ hzBC).trans hkB'.out
      have hkC9 := (hb9.block _ hzC).trans hkC'.out
      have hLA9 := hLA.kept hb9
      have hLB9 := hLB.kept hb9
      have hLC9 := hLC.kept hb9
      have hB9 := below_then hBC hb9
      clear a0 a1 a2 a3 b0 b1 b2 b3 cR hq hb9 hkA' hkB' hkC' hLA hLB hLC hBC hzC hzBC hzAC
      obtain ⟨b0, b1, b2, b3, _, _, _, _⟩ := res4 hkB9
      obtain ⟨d0, d1, d2, d3, _, _, _, _⟩ := res4 hkC9
      have hzA9 : w2.heap.size < w9.heap.size := (Array.getElem?_eq_some_iff.1 hkA9).1
      have hzC9 : w8.heap.size < w9.heap.size := (Array.getElem?_eq_some_iff.1 hkC9).1
      have hkA' := Lib.hid hkA9
      have hkC' := Lib.hid hkC9
      clear hkA9 hkB9 hkC9
      go_wp2_with fail
      first | go_at_call 11 | skip
      refine (refSame_any _ _ L L w9 hLC9 hLB9).mono ?_
      rintro e w10 ⟨hS, hb10⟩
      obtain rfl := hS.same
      have hkA10 := (hb10.block _ hzA9).trans hkA'.out
      have hkC10 := (hb10.block _ hzC9).trans hkC'.out
      have hLA10 := hLA9.kept hb10
      have hLC10 := hLC9.kept hb10
      have hB10 := below_then hB9 hb10
      clear hS b0 b1 b2 b3 d0 d1 d2 d3 hb10
      obtain ⟨a0, a1, a2, a3, _, _, _, _⟩ := res4 hkA10
      obtain ⟨d0, d1, d2, d3, _, _, _, _⟩ := res4 hkC10
      go_wp2_with fail
      first | go_at_call 16 | skip
      refine (same_any _ _ L L w10 hLC10 hLA10).mono ?_
      rintro e w11 ⟨hS, hb11⟩
      obtain rfl := hS.same
      have hB11 := below_then hB10 hb11
      clear hS a0 a1 a2 a3 d0 d1 d2 d3 hb11
      go_wp2_with fail
      go_ret
      exact ⟨rfl, hB11⟩
  · have dn : ((n : Int) != 0) = true := bne_iff_ne.2 (by omega)
    have dn2 : ((n : Int) == 0) = false := beq_eq_false_iff_ne.2 (by omega)
    have hRR : (R != R) = false := by cases R <;> rfl
    go_wp2_with fail
    go_ret
    exact ⟨rfl, hB5⟩
end Go.Proofs.YthkcjfoihieooaaDoor.Li
