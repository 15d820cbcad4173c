import Derived.Test.YtjeagjleolmibaaGreatDoorMg14
import Derived.Test.YtjeagjleolmibaaGreatDoorMg3

/-
  THE WALK OF THE REFERENCE's Right: are pieces a document's?
-/
set_option linter.unusedVariables false
namespace Go.Proofs.YtjeagjleolmibaaGreatDoor.Xm
open Go.Lib Go.RowKit

/-- what is open, as rgt has it -/
def stk (os : List Pc) : List (Row × Int) := (os.map fun p => (p.name, p.space)).reverse
theorem stk_snoc (os : List Pc) (p : Pc) : stk (os ++ [p]) = (p.name, p.space) :: stk os := by simp [stk]
theorem stk_len (os : List Pc) : (stk os).length = os.length := by simp [stk]
theorem stk_nil (os : List Pc) : stk os = [] ↔ os = [] := by simp [stk]
/-- the kind of the piece ahead -/
def was (ps : List Pc) (k : Nat) : Bool := decide (0 < k ∧ ∃ p, ps[k - 1]? = some p ∧ p.kind = 3)
theorem was_next {ps : List Pc} {k : Nat} {p : Pc} (h : ps[k]? = some p) : was ps (k + 1) = decide (p.kind = 3) := by
  unfold was
  rw [Nat.add_sub_cancel, h]
  simp
theorem drop_next {ps : List Pc} {k : Nat} {p : Pc} (h : ps[k]? = some p) : ps.drop k = p :: ps.drop (k + 1) := by
  obtain ⟨h1, e1⟩ := List.getElem?_eq_some_iff.1 h
  rw [List.drop_eq_getElem_cons h1, e1]
theorem rgt_1 {f c : Bool} {st : List (Row × Int)} {p : Pc} {r : List Pc} (h0 : f = true ∨ st ≠ []) (hk : p.kind = 1) (ho : okTag p = true) (hl : st.length < 16) : rgt f c st (p :: r) = rgt false false ((p.name, p.space) :: st) r := by
  conv => lhs; unfold rgt
  have h1 : (f || !st.isEmpty) = true := by simpa using h0
  rw [if_pos hk, h1, ho, decide_eq_true hl]; rfl
theorem rgt_2 {f c : Bool} {st : List (Row × Int)} {p : Pc} {r : List Pc} (hk : p.kind = 2) (ho : okTag p = true) : rgt f c ((p.name, p.space) :: st) (p :: r) = rgt false false st r := by
  conv => lhs; unfold rgt
  rw [if_neg (by rw [hk]; decide), if_pos hk, ho]
  simp
theorem rgt_3 {st : List (Row × Int)} {p : Pc} {r : List Pc} (h0 : st ≠ []) (hk : p.kind = 3) (ho : okTxt p = true) : rgt false false st (p :: r) = rgt false true st r := by
  conv => lhs; unfold rgt
  have h1 : (false || !st.isEmpty) = true := by simpa using h0
  rw [if_neg (by rw [hk]; decide), if_neg (by rw [hk]; decide), if_pos hk, h1, ho]; rfl
theorem rgt_no {f c : Bool} {st : List (Row × Int)} {p : Pc} {r : List Pc} {R : Bool} (h : rgt f c st (p :: r) = R) (hn : ¬ ((f = true ∨ st ≠ []) ∧
    ((p.kind = 1 ∧ okTag p = true ∧ st.length < 16) ∨ (p.kind = 2 ∧ okTag p = true ∧ ∃ s, st = (p.name, p.space) :: s) ∨ (p.kind = 3 ∧ f = false ∧ c = false ∧ okTxt p = true)))) : R = false := by
  cases R with
  | false => rfl
  | true =>
    obtain ⟨h0, h1⟩ := rgt_cons h
    refine absurd ⟨h0, ?_⟩ hn
    rcases h1 with ⟨a, b, c, _⟩ | ⟨a, b, s, c, _⟩ | ⟨a, b, c, d, _⟩
    · exact .inl ⟨a, b, c⟩
    · exact .inr (.inl ⟨a, b, s, c⟩)
    · exact .inr (.inr ⟨a, b, c, d⟩)
theorem okTag_of {p : Pc} {a1 a2 : ByteArray} (d1 : a1.data.toList = p.name) (d2 : a2.data.toList = p.text) : okTag p = true ↔ (a2.size = 0 ∧ (0 ≤ p.space ∧ p.space ≤ 2)) ∧ (nameN a1.data.toList = a1.size ∧ a1.size ≠ 0) := by
  unfold okTag
  simp only [Bool.and_eq_true, decide_eq_true_eq, List.isEmpty_iff]
  rw [← d1, ← nameN_is, ← d2, Lib.size_eq, Lib.size_eq, List.length_eq_zero_iff]
theorem okTxt_of {p : Pc} {a1 a2 : ByteArray} (d1 : a1.data.toList = p.name) (d2 : a2.data.toList = p.text) : okTxt p = true ↔ (a1.size = 0 ∧ p.space = 0) ∧ (Ch.valid a2.data.toList = true ∧ blanks a2.data.toList = false) := by
  unfold okTxt
  simp only [Bool.and_eq_true, decide_eq_true_eq, List.isEmpty_iff, Bool.not_eq_true']
  rw [← d1, ← d2, Lib.size_eq, List.length_eq_zero_iff]

set_option maxHeartbeats 8000000 in
set_option maxRecDepth 100000 in
theorem refRight_any (v : Value) (ps : List Pc) (w : World) (hv : PcsAt w v ps) (hsz : ∀ p ∈ ps, p.name.length ≤ 140737488355328 ∧ p.text.length ≤ 140737488355328) :
    Calls Tryz.prog 12 #[v] w fun e w' => e = .returned (.bool (right ps)) ∧ Below w.heap.size w w' := by
  obtain ⟨A, b, off, c, rfl, hc1, hc2, hA, hP⟩ := hv
  unfold maxLen at hc2
  obtain ⟨R, hR⟩ : ∃ R, right ps = R := ⟨_, rfl⟩
  rw [hR]
  obtain ⟨n, hn⟩ : ∃ n, ps.length = n := ⟨_, rfl⟩
  obtain ⟨Z, hZ⟩ : ∃ Z, w.heap.size = Z := ⟨_, rfl⟩
  rw [hn] at hc1 hA ⊢
  have hn' := Lib.hid hn
  have hP' := Lib.hid hP
  have hA' := Lib.hid hA
  have hR' := Lib.hid hR
  have hsz' := Lib.hid hsz
  have hZ' := Lib.hid hZ
  clear hn hP hA hR hsz hZ
  go_enter Tryz.func12, Tryz.ntmps12
  go_wp2
  go_loopw [3, 9] (fun s3 s9 wr => ∃ (k : Nat) (os : List Pc), s9 = .int .i64 (k : Int) ∧ k ≤ n ∧ PsOwn Z s3 os wr ∧ os.length ≤ 16 ∧ Below Z w wr ∧ rgt (decide (k = 0)) (was ps k) (stk os) (ps.drop k) = R) (fun s3 s9 wr => n - (RowKit.intOf s9).toNat)
  case atStart =>
    refine ⟨0, [], rfl, Nat.zero_le _, PsOwn.nil _ _, by decide, by rw [← hZ'.out]; exact Below.refl _ _, ?_⟩
    rw [← hR'.out, List.drop_zero]; rfl
  case round =>
    obtain ⟨k, os, rfl, hk, hown, hos, hB, hr⟩ := hrel
    obtain ⟨A2, b2, off2, c2, rfl, ho1, ho2, ho3, ho4⟩ := hown.at
    unfold maxLen at ho2
    have hZr : Z ≤ wr.heap.size := by have := hB.size; rw [hZ'.out] at this; exact this
    have hB' := Lib.hid hB
    have hown' := Lib.hid hown
    have ho3' := Lib.hid ho3
    have ho4' := Lib.hid ho4
    clear hB hown ho3 ho4
    by_cases hlt : k < n
    · have hp : ps[k]? = some (ps[k]'(by have := hn'.out; omega)) := List.getElem?_eq_getElem _
      obtain ⟨p, hPe⟩ : ∃ p, ps[k]'(by have := hn'.out; omega) = p := ⟨_, rfl⟩
      rw [hPe] at hp
      clear hPe
      rw [drop_next hp] at hr
      have hno := fun hn => rgt_no hr hn
      obtain ⟨rfl, hAb⟩ := hA'.out (by omega)
      obtain ⟨a1, a2, d1, d2, p0, p1, p2, p3⟩ := PcsAt.piece hP'.out hAb (by rw [hZ'.out]; exact hB'.out) hp
      have hs1 : a1.size ≤ 140737488355328 := by
        have := (hsz'.out p (List.mem_of_getElem? hp)).1
        rw [← d1, ← Lib.size_eq] at this; exact this
      have hs2 : a2.size ≤ 140737488355328 := by
        have := (hsz'.out p (List.mem_of_getElem? hp)).2
        rw [← d2, ← Lib.size_eq] at this; exact this
      have hr' := Lib.hid hr
      have hp' := Lib.hid hp
      have hO := okTag_of d1 d2
      have hX := okTxt_of d1 d2
      have hno' := Lib.hid hno
      have hO' := Lib.hid hO
      have hX' := Lib.hid hX
      have d1' := Lib.hid d1
      have d2' := Lib.hid d2
      obtain ⟨sp, hsp⟩ : ∃ sp, p.space = sp := ⟨_, rfl⟩
      obtain ⟨kd, hkd⟩ : ∃ kd, p.kind = kd := ⟨_, rfl⟩
      rw [hkd] at p0
      rw [hsp] at p1
      have hsp' := Lib.hid hsp
      have hkd' := Lib.hid hkd
      clear hr hp hno hO hX d1 d2 hsp hkd
      have cN := fun W => refName_any a1 W hs1
      by_cases hz : 0 < k ∧ os.length = 0
      · obtain ⟨z1, z2⟩ := hz
        have hRf : R = false := hno'.out fun h => by
          rcases h.1 with h | h
          · have := of_decide_eq_true h; omega
          · exact h ((stk_nil os).2 (List.eq_nil_of_length_eq_zero z2))
        subst hRf
        have z1' : (0 : Int) < (k : Int) := by omega
        rw [z2]
        clear cN
        go_wp2
        go_ret
        have hal : Below Z w (wr.alloc (.cells #[.int .i64 kd, .int .i64 sp, .string a1, .string a2] 37)) := hB'.out.alloc hZr _
        exact ⟨rfl, by rw [hZ'.out]; exact hal⟩
      · have hfirst : decide (k = 0) = true ∨ stk os ≠ [] := by
          by_cases hk0 : k = 0
          · exact .inl (decide_eq_true hk0)
          · refine .inr fun e => hz ⟨by omega, ?_⟩
            rw [(stk_nil os).1 e]; rfl
        have hcase : (¬ (0 : Int) < (k : Int)) ∨ ((0 : Int) < (k : Int) ∧ ((os.length : Int) == 0) = false) := by
          by_cases hk0 : k = 0
          · exact .inl (by omega)
          · exact .inr ⟨by omega, beq_eq_false_iff_ne.2 (by omega)⟩
        clear hz
        have hfirst' := Lib.hid hfirst
        clear hfirst
        have hal : Hid (∀ m, Below Z w ((wr.alloc (.cells #[.int .i64 kd, .int .i64 sp, .string a1, .string a2] 37)).drewN m)) := Lib.hid fun m => below_drewN m (hB'.out.alloc hZr _)
        have hcells : Hid (∀ m, ((wr.alloc (.cells #[.int .i64 kd, .int .i64 sp, .string a1, .string a2] 37)).drewN m).heap[wr.heap.size]? = some (.cells #[.int .i64 kd, .int .i64 sp, .string a1, .string a2] 37 (0, 0))) := Lib.hid fun m => heap_alloc_new wr _
        have hownm : Hid (∀ m, PsOwn Z (.slice A2 os.length c2) os ((wr.alloc (.cells #[.int .i64 kd, .int .i64 sp, .string a1, .string a2] 37)).drewN m)) := Lib.hid fun m => hown'.out.kept (below_drewN m ((Below.refl _ _).alloc (Nat.le_refl _) _))
        have e1 : Hid (sv p.name = .string a1) := Lib.hid (by rw [← d1'.out]; exact sv_data a1)
        have e2 : Hid (sv p.text = .string a2) := Lib.hid (by rw [← d2'.out]; exact sv_data a2)
        have hgood : okTag p = true → decide (0 < a2.size) = false ∧ decide (sp < 0) = false ∧ decide (2 < sp) = false ∧ ((nameN a1.data.toList : Int) == (a1.size : Int)) = true ∧ ((a1.size : Int) == 0) = false := fun h => by
          obtain ⟨⟨h1, h2⟩, h3, h4⟩ := hO'.out.1 h
          rw [hsp'.out] at h2
          exact ⟨decide_eq_false (by omega), decide_eq_false (by omega), decide_eq_false (by omega), beq_iff_eq.2 (by omega), beq_eq_false_iff_ne.2 (by omega)⟩
        have hbad : okTag p = false → decide (0 < a2.size) = true ∨ (decide (0 < a2.size) = false ∧ decide (sp < 0) = true) ∨ (decide (0 < a2.size) = false ∧ decide (sp < 0) = false ∧ decide (2 < sp) = true) ∨
            (decide (0 < a2.size) = false ∧ decide (sp < 0) = false ∧ decide (2 < sp) = false ∧ ((nameN a1.data.toList : Int) == (a1.size : Int)) = false) ∨
            (decide (0 < a2.size) = false ∧ decide (sp < 0) = false ∧ decide (2 < sp) = false ∧ ((nameN a1.data.toList : Int) == (a1.size : Int)) = true ∧ ((a1.size : Int) == 0) = true) := fun h => by
          by_cases c1 : 0 < a2.size
          · exact .inl (decide_eq_true c1)
          · by_cases c2 : sp < 0
            · exact .inr (.inl ⟨decide_eq_false c1, decide_eq_true c2⟩)
            · by_cases c3 : 2 < sp
              · exact .inr (.inr (.inl ⟨decide_eq_false c1, decide_eq_false c2, decide_eq_true c3⟩))
              · by_cases c4 : (nameN a1.data.toList : Int) = (a1.size : Int)
                · by_cases c5 : (a1.size : Int) = 0
                  · exact .inr (.inr (.inr (.inr ⟨decide_eq_false c1, decide_eq_false c2, decide_eq_false c3, beq_iff_eq.2 c4, beq_iff_eq.2 c5⟩)))
                  · have := hO'.out.2 ⟨⟨by omega, by rw [hsp'.out]; omega⟩, by omega, by omega⟩
                    rw [h] at this; cases this
                · exact .inr (.inr (.inr (.inl ⟨decide_eq_false c1, decide_eq_false c2, decide_eq_false c3, beq_eq_false_iff_ne.2 c4⟩)))
        by_cases T0 : (kd = 1 ∨ kd = 2) ∧ okTag p = false
        · obtain ⟨K12, T⟩ := T0
          have hRf : R = false := hno'.out fun h => by
            rcases h.2 with ⟨_, q, _⟩ | ⟨_, q, _⟩ | ⟨q, _⟩
            · rw [T] at q; cases q
            · rw [T] at q; cases q
            · rw [hkd'.out] at q; omega
          subst hRf
          have hb := hbad T
          clear hbad hgood T
          rcases hb with t1 | ⟨t1, t2⟩ | ⟨t1, t2, t3⟩ | ⟨t1, t2, t3, t4⟩ | ⟨t1, t2, t3, t4, t5⟩
          all_goals
            have t4' : ((nameN a1.data.toList : Int) != (a1.size : Int)) = !((nameN a1.data.toList : Int) == (a1.size : Int)) := rfl
            have s4 : (nameN a1.data.toList == a1.size) = ((nameN a1.data.toList : Int) == (a1.size : Int)) := by rw [Bool.eq_iff_iff, beq_iff_eq, beq_iff_eq]; omega
            have s4' : (nameN a1.data.toList != a1.size) = !((nameN a1.data.toList : Int) == (a1.size : Int)) := by unfold bne; rw [s4]
            have s5 : (a1.size == 0) = ((a1.size : Int) == 0) := by rw [Bool.eq_iff_iff, beq_iff_eq, beq_iff_eq]; omega
            try rw [t4] at s4 s4' t4'
            try rw [t5] at s5
            rcases K12 with rfl | rfl
            all_goals
              rcases hcase with z1 | ⟨z1, z2⟩
              all_goals
                go_wp2_with fail
                go_quiet ((go_at_call 15; exact Calls.quiet_of_same (cN _)))
                go_wp2
                go_ret
                exact ⟨rfl, by rw [hZ'.out]; exact hal.out _⟩
        · have hgT : (kd = 1 ∨ kd = 2) → okTag p = true := fun h => by
            cases hT : okTag p with
            | true => rfl
            | false => exact absurd ⟨h, hT⟩ T0
          clear hbad T0
          by_cases K1 : kd = 1
          · subst K1
            have T := hgT (.inl rfl)
            · obtain ⟨t1, t2, t3, t4, t5⟩ := hgood T
              have s4 : (nameN a1.data.toList == a1.size) = true := beq_iff_eq.2 (by have := beq_iff_eq.1 t4; omega)
              have s4' : (nameN a1.data.toList != a1.size) = false := by unfold bne; rw [s4]; rfl
              have s5 : (a1.size == 0) = false := beq_eq_false_iff_ne.2 (by have := beq_eq_false_iff_ne.1 t5; omega)
              have t4' : ((nameN a1.data.toList : Int) != (a1.size : Int)) = false := by unfold bne; rw [t4]; rfl
              have T' := Lib.hid T
              clear T hgood hgT
              by_cases hl : os.length < 16
              · have hnext := Lib.hid (show rgt (decide (k + 1 = 0)) (was ps (k + 1)) (stk (os ++ [p])) (ps.drop (k + 1)) = R from by
                  rw [stk_snoc, was_next hp'.out, hkd'.out, ← hr'.out, rgt_1 hfirst'.out hkd'.out T'.out (by rw [stk_len]; exact hl)]; rfl)
                have hl' : ¬ (16 : Int) < (os.length : Int) + 1 := by omega
                rcases hcase with z1 | ⟨z1, z2⟩
                all_goals
                  go_wp2_with fail
                  go_quiet ((go_at_call 15; exact Calls.quiet_of_same (cN _)))
                  go_wp2_with (at_builtin; refine append_piece p a1 a2 1 sp ?i1 ?i2 ?i3 ?i4 rfl _ _ rfl Z _ os _ ?i8 rfl rfl ?i5 ?i6 ?i7 ?_)
                  case i1 => exact e1.out
                  case i2 => exact e2.out
                  case i3 => exact hkd'.out
                  case i4 => exact hsp'.out
                  case i5 => exact hownm.out _
                  case i6 => omega
                  case i7 => simp; omega
                  case i8 => simp
                  intro v7 w7 hown7 hg7
                  have hc7 := (beside hown'.out (Nat.le_refl _) (by simp) hg7).trans (hcells.out _)
                  have q7 : w7.cell? ⟨wr.heap.size, 0, none⟩ = some (.int .i64 1) := (Lib.cell_of_heap hc7 0).trans rfl
                  have hB7 := Lib.hid (left_of (hownm.out _) hg7 Z w (hal.out _) (Nat.le_refl _) (by simp; omega))
                  obtain ⟨ao7, co7, e7⟩ := ownsRow_form hown7
                  rw [List.length_append, List.length_singleton] at e7
                  subst e7
                  have hown7' := Lib.hid hown7
                  clear hg7 hc7 hown7
                  go_wp2
                  go_roundw
                  case rel => exact ⟨k + 1, os ++ [p], by go_num, by omega, hown7'.out, by simp; omega, hB7.out, hnext.out⟩
                  case measure => simp [RowKit.intOf]; omega
              · have hRf : R = false := hno'.out fun h => by
                  rcases h.2 with ⟨_, _, q⟩ | ⟨q, _⟩ | ⟨q, _⟩
                  · rw [stk_len] at q; omega
                  · rw [hkd'.out] at q; exact absurd q (by decide)
                  · rw [hkd'.out] at q; exact absurd q (by decide)
                subst hRf
                have hl' : (16 : Int) < (os.length : Int) + 1 := by omega
                rcases hcase with z1 | ⟨z1, z2⟩
                all_goals
                  go_wp2_with fail
                  go_quiet ((go_at_call 15; exact Calls.quiet_of_same (cN _)))
                  go_wp2_with (at_builtin; refine append_piece p a1 a2 1 sp ?i1 ?i2 ?i3 ?i4 rfl _ _ rfl Z _ os _ ?i8 rfl rfl ?i5 ?i6 ?i7 ?_)
                  case i1 => exact e1.out
                  case i2 => exact e2.out
                  case i3 => exact hkd'.out
                  case i4 => exact hsp'.out
                  case i5 => exact hownm.out _
                  case i6 => omega
                  case i7 => simp; omega
                  case i8 => simp
                  intro v7 w7 hown7 hg7
                  have hc7 := (beside hown'.out (Nat.le_refl _) (by simp) hg7).trans (hcells.out _)
                  have q7 : w7.cell? ⟨wr.heap.size, 0, none⟩ = some (.int .i64 1) := (Lib.cell_of_heap hc7 0).trans rfl
                  have hB7 := Lib.hid (left_of (hownm.out _) hg7 Z w (hal.out _) (Nat.le_refl _) (by simp; omega))
                  obtain ⟨ao7, co7, e7⟩ := ownsRow_form hown7
                  rw [List.length_append, List.length_singleton] at e7
                  subst e7
                  have hown7' := Lib.hid hown7
                  clear hg7 hc7 hown7
                  go_wp2
                  go_ret
                  exact ⟨rfl, by rw [hZ'.out]; exact hB7.out⟩
          · by_cases K2 : kd = 2
            · subst K2
              have T := hgT (.inr rfl)
              obtain ⟨t1, t2, t3, t4, t5⟩ := hgood T
              have s4 : (nameN a1.data.toList == a1.size) = true := beq_iff_eq.2 (by have := beq_iff_eq.1 t4; omega)
              have s4' : (nameN a1.data.toList != a1.size) = false := by unfold bne; rw [s4]; rfl
              have s5 : (a1.size == 0) = false := beq_eq_false_iff_ne.2 (by have := beq_eq_false_iff_ne.1 t5; omega)
              have t4' : ((nameN a1.data.toList : Int) != (a1.size : Int)) = false := by unfold bne; rw [t4]; rfl
              have T' := Lib.hid T
              clear T hgood hgT
              rcases List.eq_nil_or_concat os with rfl | ⟨os2, q, eos⟩
              · have hRf : R = false := hno'.out fun h => by
                  rcases h.2 with ⟨q, _⟩ | ⟨_, _, s, q⟩ | ⟨q, _⟩
                  · rw [hkd'.out] at q; exact absurd q (by decide)
                  · cases q
                  · rw [hkd'.out] at q; exact absurd q (by decide)
                subst hRf
                rcases hcase with z1 | ⟨z1, z2⟩
                · go_wp2_with fail
                  go_quiet ((go_at_call 15; exact Calls.quiet_of_same (cN _)))
                  go_wp2_with fail
                  go_quiet (fail)
                  go_wp2
                  go_ret
                  exact ⟨rfl, by rw [hZ'.out]; exact below_drewN _ (hal.out _)⟩
                · exact absurd z2 (by simp)
              · rw [List.concat_eq_append] at eos
                subst eos
                rw [List.length_append, List.length_singleton] at hos ho1 ho3' hcase hownm hown' ⊢
                obtain ⟨N, hN⟩ : ∃ N, os2.length = N := ⟨_, rfl⟩
                rw [hN] at hos ho1 ho3' hcase hownm hown' ⊢
                obtain ⟨rfl, hb2⟩ := ho3'.out (by omega)
                have hqj : (os2 ++ [q])[N]? = some q := by rw [← hN]; simp
                have hcq : Hid (∀ m, PcCells ((wr.alloc (.cells #[.int .i64 2, .int .i64 sp, .string a1, .string a2] 37)).drewN m) b2 (off2 + N * 4) q) := Lib.hid fun m => (ho4'.out N q hqj).kept hb2 (below_drewN m ((Below.refl _ _).alloc (Nat.le_refl _) _))
                obtain ⟨b1, eb1, db1⟩ := sv_some q.name
                have c1 : ∀ m, ((wr.alloc (.cells #[.int .i64 2, .int .i64 sp, .string a1, .string a2] 37)).drewN m).cell? ⟨b2, off2 + N * 4 + 1, none⟩ = some (.int .i64 q.space) := fun m => (hcq.out m).2.1
                have c2' : ∀ m, ((wr.alloc (.cells #[.int .i64 2, .int .i64 sp, .string a1, .string a2] 37)).drewN m).cell? ⟨b2, off2 + N * 4 + 2, none⟩ = some (.string b1) := fun m => by rw [← eb1]; exact (hcq.out m).2.2.1
                have x1 : ((N : Int) + 1 == 0) = false := beq_eq_false_iff_ne.2 (by omega)
                have x2 : (N : Int) + 1 - 1 = (N : Int) := by omega
                have x3 : (N + 1 == 0) = false := beq_eq_false_iff_ne.2 (by omega)
                have db2 : q.name = b1.data.toList := (sv_str eb1).symm
                by_cases hq : b1.toList = a1.toList ∧ q.space = sp
                · obtain ⟨hq1, hq2⟩ := hq
                  have n1 : (b1.toList != a1.toList) = false := by unfold bne; rw [beq_iff_eq.2 hq1]; rfl
                  have n1' : (b1.toList == a1.toList) = true := beq_iff_eq.2 hq1
                  have n2 : (q.space != sp) = false := by unfold bne; rw [beq_iff_eq.2 hq2]; rfl
                  have n2' : (q.space == sp) = true := beq_iff_eq.2 hq2
                  have hqp : (q.name, q.space) = (p.name, p.space) := by
                    rw [hq2, hsp'.out, db2, ← d1'.out, ← Lib.toList_data, hq1, Lib.toList_data]
                  have hnext := Lib.hid (show rgt (decide (k + 1 = 0)) (was ps (k + 1)) (stk os2) (ps.drop (k + 1)) = R from by
                    have hr2 := hr'.out
                    rw [stk_snoc, hqp, rgt_2 hkd'.out T'.out] at hr2
                    rw [was_next hp'.out, hkd'.out, ← hr2]; rfl)
                  have hown8 : Hid (∀ W, Below ((wr.alloc (.cells #[.int .i64 2, .int .i64 sp, .string a1, .string a2] 37))).heap.size (wr.alloc (.cells #[.int .i64 2, .int .i64 sp, .string a1, .string a2] 37)) W → PsOwn Z (.slice (some ⟨b2, off2, none⟩) N c2) os2 W) := Lib.hid fun W hW => by
                    have := (hown'.out.kept ((Below.refl wr.heap.size wr).alloc (Nat.le_refl _) (.cells #[.int .i64 2, .int .i64 sp, .string a1, .string a2] 37))).kept hW
                    have := this.pop
                    rw [hN] at this
                    exact this
                  have hl' : ¬ (16 : Int) < (N : Int) := by omega
                  clear hcq eb1 hq1 hq2 hqp
                  rcases hcase with z1 | ⟨z1, z2⟩
                  all_goals
                    go_wp2_with fail
                    go_quiet ((go_at_call 15; exact Calls.quiet_of_same (cN _)))
                    go_wp2_with fail
                    go_quiet (fail)
                    go_wp2
                    go_roundw
                    case rel => exact ⟨k + 1, os2, by go_num, by omega, hown8.out _ (below_drewN _ (Below.refl _ _)), by omega, hal.out _, hnext.out⟩
                    case measure => simp [RowKit.intOf]; omega
                · have hRf : R = false := hno'.out fun h => by
                    rcases h.2 with ⟨q, _⟩ | ⟨_, _, s, h3⟩ | ⟨q, _⟩
                    · rw [hkd'.out] at q; exact absurd q (by decide)
                    · rw [stk_snoc] at h3
                      injection h3 with h3 _
                      injection h3 with h4 h5
                      exact hq ⟨by rw [Lib.toList_data, Lib.toList_data, ← db2, d1'.out, h4], by rw [h5, hsp'.out]⟩
                    · rw [hkd'.out] at q; exact absurd q (by decide)
                  subst hRf
                  have hq2 : ((b1.toList == a1.toList) = false) ∨ ((b1.toList == a1.toList) = true ∧ (q.space == sp) = false) := by
                    by_cases e1 : b1.toList = a1.toList
                    · exact .inr ⟨beq_iff_eq.2 e1, beq_eq_false_iff_ne.2 (fun e2 => hq ⟨e1, e2⟩)⟩
                    · exact .inl (beq_eq_false_iff_ne.2 e1)
                  clear hcq eb1 hq
                  rcases hq2 with n1 | ⟨n1, n2⟩
                  all_goals
                    have m1 : (b1.toList != a1.toList) = !(b1.toList == a1.toList) := rfl
                    have m2 : (q.space != sp) = !(q.space == sp) := rfl
                    rw [n1] at m1
                    try rw [n2] at m2
                    rcases hcase with z1 | ⟨z1, z2⟩
                    all_goals
                      go_wp2_with fail
                      go_quiet ((go_at_call 15; exact Calls.quiet_of_same (cN _)))
                      go_wp2_with fail
                      go_quiet (fail)
                      go_wp2
                      go_ret
                      exact ⟨rfl, by rw [hZ'.out]; exact below_drewN _ (hal.out _)⟩
            · by_cases K3 : kd = 3
              · subst K3
                clear hgood hgT
                have cV := fun W => Ch.refValid_any a2 W (by omega)
                have cB := fun W => refBlanks_any a2 W (by omega)
                have hX := hX'.out
                rw [hsp'.out] at hX
                by_cases hk0 : k = 0
                · have hRf : R = false := hno'.out fun h => by
                    rcases h.2 with ⟨q, _⟩ | ⟨q, _⟩ | ⟨_, q, _⟩
                    · rw [hkd'.out] at q; exact absurd q (by decide)
                    · rw [hkd'.out] at q; exact absurd q (by decide)
                    · rw [decide_eq_true hk0] at q; cases q
                  subst hRf
                  have z1 : ¬ (0 : Int) < (k : Int) := by omega
                  have z0 : ((k : Int) == 0) = true := beq_iff_eq.2 (by omega)
                  have z0n : (k == 0) = true := beq_iff_eq.2 hk0
                  clear hX hk0
                  go_wp2
                  go_ret
                  exact ⟨rfl, by rw [hZ'.out]; exact hal.out 0⟩
                · have z1 : (0 : Int) < (k : Int) := by omega
                  have z2 : ((os.length : Int) == 0) = false := by
                    rcases hcase with h | ⟨_, h⟩
                    · exact absurd z1 h
                    · exact h
                  have z0 : ((k : Int) == 0) = false := beq_eq_false_iff_ne.2 (by omega)
                  have z0n : (k == 0) = false := beq_eq_false_iff_ne.2 hk0
                  clear hcase
                  obtain ⟨K, hK⟩ : ∃ K, k - 1 = K := ⟨_, rfl⟩
                  have hK1 : (k : Int) - 1 = (K : Int) := by omega
                  have hKn : K < n := by omega
                  have hq : ps[K]? = some (ps[K]'(by have := hn'.out; omega)) := List.getElem?_eq_getElem _
                  obtain ⟨q, hqe⟩ : ∃ q, ps[K]'(by have := hn'.out; omega) = q := ⟨_, rfl⟩
                  rw [hqe] at hq
                  have hwas : was ps k = decide (q.kind = 3) := by
                    unfold was
                    rw [hK, hq]
                    have : 0 < k := by omega
                    simp [this]
                  have hc0 : ∀ m, ((wr.alloc (.cells #[.int .i64 3, .int .i64 sp, .string a1, .string a2] 37)).drewN m).cell? ⟨b, off + K * 4, none⟩ = some (.int .i64 q.kind) := fun m =>
                    ((hP'.out K q hq).kept hAb (show Below w.heap.size w _ by rw [hZ'.out]; exact hal.out m)).1
                  have hc0' : (wr.alloc (.cells #[.int .i64 3, .int .i64 sp, .string a1, .string a2] 37)).cell? ⟨b, off + K * 4, none⟩ = some (.int .i64 q.kind) := hc0 0
                  clear hqe hK
                  by_cases hgd : (q.kind = 3 → False) ∧ okTxt p = true
                  · obtain ⟨g1, g2⟩ := hgd
                    obtain ⟨⟨g3, g4⟩, g5, g6⟩ := hX.1 g2
                    have hnext := Lib.hid (show rgt (decide (k + 1 = 0)) (was ps (k + 1)) (stk os) (ps.drop (k + 1)) = R from by
                      have hr2 := hr'.out
                      rw [decide_eq_false hk0, hwas, decide_eq_false g1, rgt_3 (fun e => by
                        rw [(stk_nil os).1 e] at z2; exact absurd z2 (by decide)) hkd'.out g2] at hr2
                      rw [was_next hp'.out, hkd'.out, ← hr2]; rfl)
                    have hown8 : Hid (PsOwn Z (.slice A2 os.length c2) os (wr.alloc (.cells #[.int .i64 3, .int .i64 sp, .string a1, .string a2] 37))) := Lib.hid (hown'.out.kept ((Below.refl _ _).alloc (Nat.le_refl _) _))
                    subst g4
                    have f1 : (q.kind == 3) = false := beq_eq_false_iff_ne.2 g1
                    have f2 : decide (0 < a1.size) = false := decide_eq_false (by omega)
                    have f2' : decide ((0 : Int) < (a1.size : Int)) = false := decide_eq_false (by omega)
                    have f3 : ((0 : Int) == 0) = true := rfl
                    rw [g5] at cV
                    rw [g6] at cB
                    have hl' : ¬ (16 : Int) < (os.length : Int) := by omega
                    clear hX g2 g5 g6 hwas hq
                    go_wp2_with fail
                    go_at_call 26
                    with_reducible refine (cV _).mono ?_
                    rintro e w5 ⟨rfl, rfl⟩
                    go_wp2_with fail
                    go_at_call 17
                    with_reducible refine (cB _).mono ?_
                    rintro e w5 ⟨rfl, rfl⟩
                    go_wp2
                    go_roundw
                    case rel => exact ⟨k + 1, os, by go_num, by omega, hown8.out, by omega, hal.out 0, hnext.out⟩
                    case measure => simp [RowKit.intOf]; omega
                  · have hRf : R = false := hno'.out fun h => by
                      rcases h.2 with ⟨q, _⟩ | ⟨q, _⟩ | ⟨_, _, h3, h4⟩
                      · rw [hkd'.out] at q; exact absurd q (by decide)
                      · rw [hkd'.out] at q; exact absurd q (by decide)
                      · rw [hwas] at h3
                        exact hgd ⟨fun e => (by rw [decide_eq_true e] at h3; cases h3), h4⟩
                    subst hRf
                    have hbd : (q.kind == 3) = true ∨ ((q.kind == 3) = false ∧ decide (0 < a1.size) = true) ∨ ((q.kind == 3) = false ∧ decide (0 < a1.size) = false ∧ (sp == 0) = false) ∨
                        ((q.kind == 3) = false ∧ decide (0 < a1.size) = false ∧ (sp == 0) = true ∧ Ch.valid a2.data.toList = false) ∨
                        ((q.kind == 3) = false ∧ decide (0 < a1.size) = false ∧ (sp == 0) = true ∧ Ch.valid a2.data.toList = true ∧ blanks a2.data.toList = true) := by
                      by_cases c1 : q.kind = 3
                      · exact .inl (beq_iff_eq.2 c1)
                      · by_cases c2 : 0 < a1.size
                        · exact .inr (.inl ⟨beq_eq_false_iff_ne.2 c1, decide_eq_true c2⟩)
                        · by_cases c3 : sp = 0
                          · cases c4 : Ch.valid a2.data.toList with
                            | false => exact .inr (.inr (.inr (.inl ⟨beq_eq_false_iff_ne.2 c1, decide_eq_false c2, beq_iff_eq.2 c3, rfl⟩)))
                            | true =>
                              cases c5 : blanks a2.data.toList with
                              | true => exact .inr (.inr (.inr (.inr ⟨beq_eq_false_iff_ne.2 c1, decide_eq_false c2, beq_iff_eq.2 c3, rfl, rfl⟩)))
                              | false => exact absurd ⟨c1, hX.2 ⟨⟨by omega, c3⟩, c4, c5⟩⟩ hgd
                          · exact .inr (.inr (.inl ⟨beq_eq_false_iff_ne.2 c1, decide_eq_false c2, beq_eq_false_iff_ne.2 c3⟩))
                    clear hgd hX hwas hq
                    rcases hbd with t1 | ⟨t1, t2⟩ | ⟨t1, t2, t3⟩ | ⟨t1, t2, t3, t4⟩ | ⟨t1, t2, t3, t4, t5⟩
                    all_goals
                      have f3' : (sp != 0) = !(sp == 0) := rfl
                      have f2' : decide ((0 : Int) < (a1.size : Int)) = decide (0 < a1.size) := by rw [Bool.eq_iff_iff, decide_eq_true_iff, decide_eq_true_iff]; omega
                      try rw [t3] at f3'
                      try rw [t2] at f2'
                      try rw [t4] at cV
                      try rw [t5] at cB
                      go_wp2_with (first
                        | (go_at_call 26; with_reducible refine (cV _).mono ?_; rintro e w5 ⟨rfl, rfl⟩)
                        | (go_at_call 17; with_reducible refine (cB _).mono ?_; rintro e w5 ⟨rfl, rfl⟩))
                      go_ret
                      exact ⟨rfl, by rw [hZ'.out]; exact hal.out 0⟩
              · have hRf : R = false := hno'.out fun h => by
                  rcases h.2 with ⟨q, _⟩ | ⟨q, _⟩ | ⟨q, _⟩
                  · rw [hkd'.out] at q; exact K1 q
                  · rw [hkd'.out] at q; exact K2 q
                  · rw [hkd'.out] at q; exact K3 q
                subst hRf
                have k1 : (kd == 1) = false := beq_eq_false_iff_ne.2 K1
                have k2 : (kd == 2) = false := beq_eq_false_iff_ne.2 K2
                have k3 : (kd == 3) = false := beq_eq_false_iff_ne.2 K3
                clear hgood hgT
                rcases hcase with z1 | ⟨z1, z2⟩
                all_goals
                  go_wp2
                  go_ret
                  exact ⟨rfl, by rw [hZ'.out]; exact hal.out 0⟩
    · have hk0 : k = n := by omega
      subst hk0
      rw [List.drop_eq_nil_of_le (by have := hn'.out; omega)] at hr
      have hr2 : (!decide (k = 0) && (stk os).isEmpty) = R := hr
      clear hr
      by_cases hk0 : k = 0
      · subst hk0
        have hRf : R = false := by rw [← hr2]; rfl
        subst hRf
        go_wp2
        go_ret
        exact ⟨rfl, by rw [hZ'.out]; exact hB'.out⟩
      · have z1 : (0 : Int) < (k : Int) := by omega
        by_cases he : os.length = 0
        · have hRt : R = true := by
            rw [← hr2, decide_eq_false hk0, (stk_nil os).2 (List.eq_nil_of_length_eq_zero he)]; rfl
          subst hRt
          rw [he]
          go_wp2
          go_ret
          exact ⟨rfl, by rw [hZ'.out]; exact hB'.out⟩
        · have hRf : R = false := by
            rw [← hr2, decide_eq_false hk0, List.isEmpty_eq_false_iff.2 (fun e => he (by rw [(stk_nil os).1 e]; rfl))]; rfl
          subst hRf
          have z2 : ((os.length : Int) == 0) = false := beq_eq_false_iff_ne.2 (by omega)
          go_wp2
          go_ret
          exact ⟨rfl, by rw [hZ'.out]; exact hB'.out⟩
end Go.Proofs.YtjeagjleolmibaaGreatDoor.Xm

/-
  PLAIN LAWS OF LAYER xml: the printed text chunk by chunk, at a place.
-/
set_option linter.unusedVariables false
namespace Go.Proofs.YtjeagjleolmibaaGreatDoor.Xm

/-- was the piece ahead an element's beginning? -/
def was1 (ps : List Pc) (k : Nat) : Bool := decide (0 < k ∧ ∃ p, ps[k - 1]? = some p ∧ p.kind = 1)
theorem chunks_at : ∀ (ps : List Pc) (f o : Bool) (k : Nat) (p : Pc), ps[k]? = some p → (chunks f o ps)[k]? = some (chunk (if k = 0 then f else false) (if k = 0 then o else was1 ps k) p (ps.drop (k + 1)))
  | [], _, _, k, p, h => by simp at h
  | q :: r, f, o, 0, p, h => by
    simp at h; subst h
    rfl
  | q :: r, f, o, k + 1, p, h => by
    have h' : r[k]? = some p := by simpa using h
    have := chunks_at r false (decide (q.kind = 1)) k p h'
    show (chunks false (decide (q.kind = 1)) r)[k]? = _
    rw [this, if_neg (c := k + 1 = 0) (by omega), if_neg (c := k + 1 = 0) (by omega), show (if k = 0 then false else false) = false by split <;> rfl]
    congr 2
    cases k with
    | zero =>
      rw [if_pos rfl]
      unfold was1
      simp
    | succ k =>
      rw [if_neg (by omega)]
      unfold was1
      simp
theorem chunks_len : ∀ (ps : List Pc) (f o : Bool), (chunks f o ps).length = ps.length
  | [], _, _ => rfl
  | p :: r, f, o => by show (chunks false _ r).length + 1 = _; rw [chunks_len r]; rfl
/-- what is printed ahead of a piece -/
def preX (ps : List Pc) (k : Nat) : Row := ((chunks true false ps).take k).flatten
theorem preX_zero (ps : List Pc) : preX ps 0 = [] := rfl
theorem preX_all (ps : List Pc) : preX ps ps.length = prX ps := by
  unfold preX prX
  rw [List.take_of_length_le (by rw [chunks_len]; exact Nat.le_refl _)]
theorem preX_succ {ps : List Pc} {k : Nat} {p : Pc} (h : ps[k]? = some p) : preX ps (k + 1) = preX ps k ++ chunk (decide (k = 0)) (was1 ps k) p (ps.drop (k + 1)) := by
  have hc := chunks_at ps true false k p h
  have hlt := (List.getElem?_eq_some_iff.1 hc).1
  unfold preX
  rw [List.take_succ_eq_append_getElem hlt, List.flatten_append, List.flatten_cons, List.flatten_nil, List.append_nil]
  congr 1
  rw [(List.getElem?_eq_some_iff.1 hc).2]
  by_cases hk : k = 0
  · rw [if_pos hk, if_pos hk, decide_eq_true hk]
    congr 1
    unfold was1
    simp [hk]
  · rw [if_neg hk, if_neg hk, decide_eq_false hk]
theorem flat_take_le : ∀ (C : List Row) (k : Nat), ((C.take k).flatten).length ≤ C.flatten.length
  | [], k => by simp
  | c :: C, 0 => by simp
  | c :: C, k + 1 => by
    have := flat_take_le C k
    rw [take_flat_succ, List.flatten_cons, List.length_append, List.length_append]; omega
theorem preX_le (ps : List Pc) (k : Nat) : (preX ps k).length ≤ (prX ps).length := flat_take_le _ k
/-- what a right piece is -/
theorem rgt_at : ∀ (ps : List Pc) (f c : Bool) (st : List (Row × Int)), rgt f c st ps = true → ∀ (k : Nat) (p : Pc), ps[k]? = some p →
    (p.kind = 1 ∧ okTag p = true ∧ ∃ q, ps[k + 1]? = some q) ∨ (p.kind = 2 ∧ okTag p = true ∧ (k = 0 → st ≠ [])) ∨ (p.kind = 3 ∧ okTxt p = true)
  | [], _, _, _, _, k, p, hp => by simp at hp
  | q :: r, f, c, st, h, 0, p, hp => by
    simp at hp; subst hp
    obtain ⟨_, hk⟩ := rgt_cons h
    rcases hk with ⟨hk, ho, _, hr⟩ | ⟨hk, ho, s, hs, _⟩ | ⟨hk, _, _, ho, _⟩
    · refine .inl ⟨hk, ho, ?_⟩
      cases r with
      | nil => cases hr
      | cons z r => exact ⟨z, rfl⟩
    · exact .inr (.inl ⟨hk, ho, fun _ e => by rw [hs] at e; cases e⟩)
    · exact .inr (.inr ⟨hk, ho⟩)
  | q :: r, f, c, st, h, k + 1, p, hp => by
    have hp' : r[k]? = some p := by simpa using hp
    obtain ⟨_, hk⟩ := rgt_cons h
    have key : ∀ (f' c' : Bool) (st' : List (Row × Int)), rgt f' c' st' r = true → _ := fun f' c' st' hr => rgt_at r f' c' st' hr k p hp'
    have fin : ((p.kind = 1 ∧ okTag p = true ∧ ∃ q, r[k + 1]? = some q) ∨ (p.kind = 2 ∧ okTag p = true ∧ (k = 0 → True)) ∨ (p.kind = 3 ∧ okTxt p = true)) := by
      rcases hk with ⟨_, _, _, hr⟩ | ⟨_, _, s, _, hr⟩ | ⟨_, _, _, _, hr⟩
      all_goals
        rcases key _ _ _ hr with h | ⟨h1, h2, _⟩ | h
        · exact .inl h
        · exact .inr (.inl ⟨h1, h2, fun _ => trivial⟩)
        · exact .inr (.inr h)
    rcases fin with ⟨h1, h2, q', h3⟩ | ⟨h1, h2, _⟩ | h
    · exact .inl ⟨h1, h2, q', by simpa using h3⟩
    · exact .inr (.inl ⟨h1, h2, fun e => by omega⟩)
    · exact .inr (.inr h)
theorem nameB_len {n : Row} (h : nameB n = true) : n.length ≤ 64 := by
  cases n with
  | nil => simp
  | cons c t =>
    simp only [nameB, Bool.and_eq_true, decide_eq_true_eq] at h
    rw [List.length_cons]; omega
theorem escT_take (t : Row) (k : Nat) (hk : k < t.length) : escT (t.take (k + 1)) = escT (t.take k) ++ esc t[k] := by
  rw [List.take_succ_eq_append_getElem hk, escT_append]
  congr 1
  simp [escT]
theorem escT_len_take (t : Row) (k : Nat) : (escT (t.take k)).length ≤ (escT t).length := by
  conv => rhs; rw [← List.take_append_drop k t, escT_append, List.length_append]
  omega
end Go.Proofs.YtjeagjleolmibaaGreatDoor.Xm
