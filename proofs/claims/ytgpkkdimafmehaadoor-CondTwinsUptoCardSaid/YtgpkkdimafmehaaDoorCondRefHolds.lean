/-
  THE WALK OF THE REFERENCE's Holds. (Written by wip/tools/genrefholds.py: the second half stands twice.)
-/
import Derived.Test.YtgpkkdimafmehaaDoorCondRefList
set_option linter.unusedVariables false
namespace Go.Proofs.YtgpkkdimafmehaaDoor.Co
open Go.Lib Go.RowKit Go.Shelf

theorem inR_step (ts : List Nat) (t : Int) (k : Nat) (hk : k < ts.length) : inR (ts.take (k + 1)) t = (inR (ts.take k) t || decide (((ts[k] : Nat) : Int) = t)) := any_take_step ts t k hk
/-- what the reference's Holds answers -/
def refE (r : Option Bool) : Ending := match r with
  | none => .returned (.tuple #[.bool false, .bool false])
  | some b => .returned (.tuple #[.bool b, .bool true])
theorem ref_none1 {m n : Row} {t : Int} (hm : m ≠ []) (h : cond m = none) : hol m n t = none := hol_none (.inl (twin_none h hm t))
theorem ref_none2 {m n : Row} {t : Int} (hn : n ≠ []) (h : cond n = none) : hol m n t = none := hol_none (.inr (twin_none h hn t))
/-- the first condition's say -/
def say (m : Row) (t : Int) (h : Bool) : Prop := (m = [] ∧ h = true) ∨ (m ≠ [] ∧ ∃ p, cond m = some p ∧ h = has p t)
theorem say_empty {m n : Row} {t : Int} {h : Bool} (hs : say m t h) (hn : n = []) : hol m n t = some h := by
  subst hn
  rcases hs with ⟨rfl, rfl⟩ | ⟨h1, p, h2, rfl⟩
  · rfl
  · rw [hol_some (twin_some h2 h1 t) (nam_nil t)]; simp [h1]
theorem say_both {m n : Row} {t : Int} {h : Bool} (hs : say m t h) (hn : n ≠ []) {p : List Nat × Bool} (hp : cond n = some p) : hol m n t = some (h && !has p t) := by
  rcases hs with ⟨rfl, rfl⟩ | ⟨h1, q, h2, rfl⟩
  · rw [hol_some (nam_nil t) (twin_some hp hn t)]; simp [hn]
  · rw [hol_some (twin_some h2 h1 t) (twin_some hp hn t)]; simp [h1, hn]

set_option maxHeartbeats 16000000 in
set_option maxRecDepth 100000 in
theorem refHolds_any (m n : ByteArray) (t : Int) (w : World) (hm : m.size ≤ 1099511627776) (hn : n.size ≤ 1099511627776) :
    Calls Tryd.prog 15 #[.string m, .string n, .int .i64 t] w fun e w' => e = refE (hol m.data.toList n.data.toList t) ∧ Below w.heap.size w w' := by
  obtain ⟨E, hE⟩ : ∃ E, refE (hol m.data.toList n.data.toList t) = E := ⟨_, rfl⟩
  rw [hE]
  have hN1 : m.data.toList ≠ [] → cond m.data.toList = none → E = .returned (.tuple #[.bool false, .bool false]) := fun h1 h2 => by rw [← hE, ref_none1 h1 h2]; rfl
  have hN2 : n.data.toList ≠ [] → cond n.data.toList = none → E = .returned (.tuple #[.bool false, .bool false]) := fun h1 h2 => by rw [← hE, ref_none2 h1 h2]; rfl
  have hY1 : n.data.toList = [] → ∀ h, say m.data.toList t h → E = .returned (.tuple #[.bool h, .bool true]) := fun h1 h h2 => by rw [← hE, say_empty h2 h1]; rfl
  have hY2 : n.data.toList ≠ [] → ∀ h, say m.data.toList t h → ∀ p, cond n.data.toList = some p → E = .returned (.tuple #[.bool (h && !has p t), .bool true]) := fun h1 h h2 p hp => by rw [← hE, say_both h2 h1 hp]; rfl
  have hM0 : m.data.toList = [] → m.size = 0 := fun h => by rw [Lib.size_eq, h]; rfl
  have hN1' := Lib.hid hN1
  have hN2' := Lib.hid hN2
  have hY1' := Lib.hid hY1
  have hY2' := Lib.hid hY2
  clear hE hN1 hN2 hY1 hY2 hM0
  have nz : ∀ s : ByteArray, s.data.toList ≠ [] → 0 < s.size := fun s h => by
    rw [Lib.size_eq]; exact List.length_pos_iff.2 h
  have ez : ∀ s : ByteArray, s.data.toList = [] → s.size = 0 := fun s h => by rw [Lib.size_eq, h]; rfl
  have cM := fun W => refList_any m W hm
  have cN := fun W => refList_any n W hn
  by_cases m0 : m.data.toList = []
  · have hz1 := ez m m0
    have hmz : ¬ (m.size : Int) > 0 := by omega
    have hmz0 : (m.size : Int) = 0 := by omega
    have hsay := Lib.hid (show say m.data.toList t true from .inl ⟨m0, rfl⟩)
    clear m0
    go_enter Tryd.func15, Tryd.ntmps15
    by_cases n0 : n.data.toList = []
    · have hz2 := ez n n0
      have hnz : ¬ (n.size : Int) > 0 := by omega
      have hnz0 : (n.size : Int) = 0 := by omega
      have hf := Lib.hid (hY1'.out n0 _ hsay.out)
      clear n0
      (go_wp2; go_ret2; exact ⟨by rw [hf.out]; first | rfl | simp, Below.refl _ _⟩)
    · have hz2 := nz n n0
      have hnz : (n.size : Int) > 0 := by omega
      have hQ := Lib.hid (fun p => hY2'.out n0 _ hsay.out p)
      have hR := Lib.hid (hN2'.out n0)
      clear n0
      go_wp2_with fail
      go_at_call 13
      refine (cN _).mono ?_
      rintro e w2 ⟨hP, hb2⟩
      rcases hP with ⟨hc, rfl⟩ | ⟨tsB, allB, vB, hcB, hvB, rfl⟩
      · have hf := Lib.hid (hR.out hc)
        clear hc
        go_wp2
        go_ret2
        exact ⟨hf.out.symm, hb2⟩
      · have hcB' := Lib.hid hcB
        clear hcB
        obtain ⟨AB, bB, offB, cB, rfl, hcB, hmB, hAB, hcellB⟩ := ns_at hvB
        have hcellB' := Lib.hid hcellB
        have hmxB : tsB.length ≤ 9223372036854775807 := by unfold maxLen at hmB; omega
        have hAB' := Lib.hid hAB
        clear hvB hcellB hAB
        go_wp2
        go_loopw [18, 20, 65] (fun sf sn sk wr => ∃ k : Nat, sk = .int .i64 (k : Int) ∧ k ≤ tsB.length ∧ sf = .bool (allB || inR (tsB.take k) t) ∧ wr = w2) (fun sf sn sk wr => tsB.length - (RowKit.intOf sk).toNat)
        case atStart => exact ⟨0, rfl, Nat.zero_le _, by rw [show inR (tsB.take 0) t = false from rfl, Bool.or_false], rfl⟩
        case round =>
          obtain ⟨k, rfl, hk, rfl, hwr⟩ := hrel
          subst hwr
          by_cases hlt : k < tsB.length
          · obtain rfl := hAB'.out (by omega)
            have hx := hcellB'.out k hlt
            have hstep := inR_step tsB t k hlt
            generalize tsB[k] = n at hx hstep
            obtain ⟨F, hF⟩ : ∃ F, (allB || inR (tsB.take k) t) = F := ⟨_, rfl⟩
            have hnx : (allB || inR (tsB.take (k + 1)) t) = (F || decide ((n : Int) = t)) := by rw [hstep, ← hF, Bool.or_assoc]
            have hnx' := Lib.hid hnx
            rw [hF]
            clear hF hstep hnx
            cases F with
            | true =>
              go_wp2
              go_roundw
              case rel => exact ⟨k + 1, by go_num, by omega, by rw [hnx'.out]; rfl, trivial⟩
              case measure => simp [RowKit.intOf]; omega
            | false =>
              by_cases he : (n : Int) = t
              · have h1 : ((n : Int) == t) = true := by simp [he]
                have hnd : (false || decide ((n : Int) = t)) = true := by rw [decide_eq_true he]; rfl
                have hnd' := Lib.hid hnd
                clear he hnd
                go_wp2
                go_roundw
                case rel => exact ⟨k + 1, by go_num, by omega, by rw [hnx'.out, hnd'.out], trivial⟩
                case measure => simp [RowKit.intOf]; omega
              · have h1 : ((n : Int) == t) = false := by simp [he]
                have hnd : (false || decide ((n : Int) = t)) = false := by rw [decide_eq_false he]; rfl
                have hnd' := Lib.hid hnd
                clear he hnd
                go_wp2
                go_roundw
                case rel => exact ⟨k + 1, by go_num, by omega, by rw [hnx'.out, hnd'.out], trivial⟩
                case measure => simp [RowKit.intOf]; omega
          · have hz : ¬ (k : Int) < (tsB.length : Int) := by omega
            rw [List.take_of_length_le (by omega)]
            obtain ⟨FB, hFB⟩ : ∃ F, (allB || inR tsB t) = F := ⟨_, rfl⟩
            rw [hFB]
            clear hk
            have hP2 : has (tsB, allB) t = (FB && decide (t ≠ 0)) := by rw [← hFB, Bool.and_comm]; rfl
            have hf : E = .returned (.tuple #[.bool (true && !(FB && decide (t ≠ 0))), .bool true]) := by rw [← hP2]; exact hQ.out _ hcB'.out
            clear hP2 hFB
            by_cases ht : t = 0
            · have h1 : (t != 0) = false := by simp [ht]
              have hf' := Lib.hid (show E = .returned (.tuple #[.bool (true && !(FB && false)), .bool true]) by rw [hf, decide_eq_false (by simp [ht])])
              clear ht hf
              cases FB <;> (go_wp2; go_ret2; exact ⟨by rw [hf'.out]; first | rfl | simp, hb2⟩)
            · have h1 : (t != 0) = true := by simp [ht]
              have hf' := Lib.hid (show E = .returned (.tuple #[.bool (true && !(FB && true)), .bool true]) by rw [hf, decide_eq_true ht])
              clear ht hf
              cases FB <;> (go_wp2; go_ret2; exact ⟨by rw [hf'.out]; first | rfl | simp, hb2⟩)
  · have hz1 := nz m m0
    have hmz : (m.size : Int) > 0 := by omega
    have hm0' := Lib.hid m0
    have hR1 := Lib.hid (hN1'.out m0)
    clear m0
    go_enter Tryd.func15, Tryd.ntmps15
    go_wp2_with fail
    go_at_call 13
    refine (cM _).mono ?_
    rintro e w1 ⟨hP, hb1⟩
    rcases hP with ⟨hc, rfl⟩ | ⟨tsA, allA, vA, hcA, hvA, rfl⟩
    · have hf := Lib.hid (hR1.out hc)
      clear hc
      go_wp2
      go_ret2
      exact ⟨hf.out.symm, hb1⟩
    · have hcA' := Lib.hid hcA
      clear hcA
      obtain ⟨AA, bA, offA, cA, rfl, hcA, hmA, hAA, hcellA⟩ := ns_at hvA
      have hcellA' := Lib.hid hcellA
      have hmxA : tsA.length ≤ 9223372036854775807 := by unfold maxLen at hmA; omega
      have hAA' := Lib.hid hAA
      clear hvA hcellA hAA
      go_wp2
      go_loopw [12, 14, 35] (fun sf sn sk wr => ∃ k : Nat, sk = .int .i64 (k : Int) ∧ k ≤ tsA.length ∧ sf = .bool (allA || inR (tsA.take k) t) ∧ wr = w1) (fun sf sn sk wr => tsA.length - (RowKit.intOf sk).toNat)
      case atStart => exact ⟨0, rfl, Nat.zero_le _, by rw [show inR (tsA.take 0) t = false from rfl, Bool.or_false], rfl⟩
      case round =>
        obtain ⟨k, rfl, hk, rfl, hwr⟩ := hrel
        subst hwr
        by_cases hlt : k < tsA.length
        · obtain rfl := hAA'.out (by omega)
          have hx := hcellA'.out k hlt
          have hstep := inR_step tsA t k hlt
          generalize tsA[k] = n at hx hstep
          obtain ⟨F, hF⟩ : ∃ F, (allA || inR (tsA.take k) t) = F := ⟨_, rfl⟩
          have hnx : (allA || inR (tsA.take (k + 1)) t) = (F || decide ((n : Int) = t)) := by rw [hstep, ← hF, Bool.or_assoc]
          have hnx' := Lib.hid hnx
          rw [hF]
          clear hF hstep hnx
          cases F with
          | true =>
            go_wp2
            go_roundw
            case rel => exact ⟨k + 1, by go_num, by omega, by rw [hnx'.out]; rfl, trivial⟩
            case measure => simp [RowKit.intOf]; omega
          | false =>
            by_cases he : (n : Int) = t
            · have h1 : ((n : Int) == t) = true := by simp [he]
              have hnd : (false || decide ((n : Int) = t)) = true := by rw [decide_eq_true he]; rfl
              have hnd' := Lib.hid hnd
              clear he hnd
              go_wp2
              go_roundw
              case rel => exact ⟨k + 1, by go_num, by omega, by rw [hnx'.out, hnd'.out], trivial⟩
              case measure => simp [RowKit.intOf]; omega
            · have h1 : ((n : Int) == t) = false := by simp [he]
              have hnd : (false || decide ((n : Int) = t)) = false := by rw [decide_eq_false he]; rfl
              have hnd' := Lib.hid hnd
              clear he hnd
              go_wp2
              go_roundw
              case rel => exact ⟨k + 1, by go_num, by omega, by rw [hnx'.out, hnd'.out], trivial⟩
              case measure => simp [RowKit.intOf]; omega
        · have hz : ¬ (k : Int) < (tsA.length : Int) := by omega
          rw [List.take_of_length_le (by omega)]
          obtain ⟨FA, hFA⟩ : ∃ F, (allA || inR tsA t) = F := ⟨_, rfl⟩
          rw [hFA]
          clear hk
          have hcA : has (tsA, allA) t = (FA && decide (t ≠ 0)) := by rw [← hFA, Bool.and_comm]; rfl
          have hway : ∃ H : Bool, say m.data.toList t H ∧ ((FA = false ∧ H = false) ∨ (FA = true ∧ (t != 0) = H)) := by
            refine ⟨_, .inr ⟨hm0'.out, _, hcA'.out, rfl⟩, ?_⟩
            rw [hcA]
            cases FA
            · exact .inl ⟨rfl, rfl⟩
            · refine .inr ⟨rfl, ?_⟩
              rw [Bool.eq_iff_iff]
              simp
          obtain ⟨H, hs, hway⟩ := hway
          have hsay := Lib.hid hs
          clear hcA hFA hs
          rcases hway with ⟨rfl, rfl⟩ | ⟨rfl, h1⟩
          · skip
            by_cases n0 : n.data.toList = []
            · have hz2 := ez n n0
              have hnz : ¬ (n.size : Int) > 0 := by omega
              have hnz0 : (n.size : Int) = 0 := by omega
              have hf := Lib.hid (hY1'.out n0 _ hsay.out)
              clear n0
              (go_wp2; go_ret2; exact ⟨by rw [hf.out]; first | rfl | simp, hb1⟩)
            · have hz2 := nz n n0
              have hnz : (n.size : Int) > 0 := by omega
              have hQ := Lib.hid (fun p => hY2'.out n0 _ hsay.out p)
              have hR := Lib.hid (hN2'.out n0)
              clear n0
              go_wp2_with fail
              go_at_call 13
              refine (cN _).mono ?_
              rintro e w2 ⟨hP, hb2⟩
              rcases hP with ⟨hc, rfl⟩ | ⟨tsB, allB, vB, hcB, hvB, rfl⟩
              · have hf := Lib.hid (hR.out hc)
                clear hc
                go_wp2
                go_ret2
                exact ⟨hf.out.symm, below_then hb1 hb2⟩
              · have hcB' := Lib.hid hcB
                clear hcB
                obtain ⟨AB, bB, offB, cB, rfl, hcB, hmB, hAB, hcellB⟩ := ns_at hvB
                have hcellB' := Lib.hid hcellB
                have hmxB : tsB.length ≤ 9223372036854775807 := by unfold maxLen at hmB; omega
                have hAB' := Lib.hid hAB
                clear hvB hcellB hAB
                go_wp2
                go_loopw [18, 20, 65] (fun sf sn sk wr => ∃ k : Nat, sk = .int .i64 (k : Int) ∧ k ≤ tsB.length ∧ sf = .bool (allB || inR (tsB.take k) t) ∧ wr = w2) (fun sf sn sk wr => tsB.length - (RowKit.intOf sk).toNat)
                case atStart => exact ⟨0, rfl, Nat.zero_le _, by rw [show inR (tsB.take 0) t = false from rfl, Bool.or_false], rfl⟩
                case round =>
                  obtain ⟨k, rfl, hk, rfl, hwr⟩ := hrel
                  subst hwr
                  by_cases hlt : k < tsB.length
                  · obtain rfl := hAB'.out (by omega)
                    have hx := hcellB'.out k hlt
                    have hstep := inR_step tsB t k hlt
                    generalize tsB[k] = n at hx hstep
                    obtain ⟨F, hF⟩ : ∃ F, (allB || inR (tsB.take k) t) = F := ⟨_, rfl⟩
                    have hnx : (allB || inR (tsB.take (k + 1)) t) = (F || decide ((n : Int) = t)) := by rw [hstep, ← hF, Bool.or_assoc]
                    have hnx' := Lib.hid hnx
                    rw [hF]
                    clear hF hstep hnx
                    cases F with
                    | true =>
                      go_wp2
                      go_roundw
                      case rel => exact ⟨k + 1, by go_num, by omega, by rw [hnx'.out]; rfl, trivial⟩
                      case measure => simp [RowKit.intOf]; omega
                    | false =>
                      by_cases he : (n : Int) = t
                      · have h1 : ((n : Int) == t) = true := by simp [he]
                        have hnd : (false || decide ((n : Int) = t)) = true := by rw [decide_eq_true he]; rfl
                        have hnd' := Lib.hid hnd
                        clear he hnd
                        go_wp2
                        go_roundw
                        case rel => exact ⟨k + 1, by go_num, by omega, by rw [hnx'.out, hnd'.out], trivial⟩
                        case measure => simp [RowKit.intOf]; omega
                      · have h1 : ((n : Int) == t) = false := by simp [he]
                        have hnd : (false || decide ((n : Int) = t)) = false := by rw [decide_eq_false he]; rfl
                        have hnd' := Lib.hid hnd
                        clear he hnd
                        go_wp2
                        go_roundw
                        case rel => exact ⟨k + 1, by go_num, by omega, by rw [hnx'.out, hnd'.out], trivial⟩
                        case measure => simp [RowKit.intOf]; omega
                  · have hz : ¬ (k : Int) < (tsB.length : Int) := by omega
                    rw [List.take_of_length_le (by omega)]
                    obtain ⟨FB, hFB⟩ : ∃ F, (allB || inR tsB t) = F := ⟨_, rfl⟩
                    rw [hFB]
                    clear hk
                    have hP2 : has (tsB, allB) t = (FB && decide (t ≠ 0)) := by rw [← hFB, Bool.and_comm]; rfl
                    have hf : E = .returned (.tuple #[.bool (false && !(FB && decide (t ≠ 0))), .bool true]) := by rw [← hP2]; exact hQ.out _ hcB'.out
                    clear hP2 hFB
                    by_cases ht : t = 0
                    · have h1 : (t != 0) = false := by simp [ht]
                      have hf' := Lib.hid (show E = .returned (.tuple #[.bool (false && !(FB && false)), .bool true]) by rw [hf, decide_eq_false (by simp [ht])])
                      clear ht hf
                      cases FB <;> (go_wp2; go_ret2; exact ⟨by rw [hf'.out]; first | rfl | simp, below_then hb1 hb2⟩)
                    · have h1 : (t != 0) = true := by simp [ht]
                      have hf' := Lib.hid (show E = .returned (.tuple #[.bool (false && !(FB && true)), .bool true]) by rw [hf, decide_eq_true ht])
                      clear ht hf
                      cases FB <;> (go_wp2; go_ret2; exact ⟨by rw [hf'.out]; first | rfl | simp, below_then hb1 hb2⟩)

          · cases H with
            | false =>
              skip
              by_cases n0 : n.data.toList = []
              · have hz2 := ez n n0
                have hnz : ¬ (n.size : Int) > 0 := by omega
                have hnz0 : (n.size : Int) = 0 := by omega
                have hf := Lib.hid (hY1'.out n0 _ hsay.out)
                clear n0
                (go_wp2; go_ret2; exact ⟨by rw [hf.out]; first | rfl | simp, hb1⟩)
              · have hz2 := nz n n0
                have hnz : (n.size : Int) > 0 := by omega
                have hQ := Lib.hid (fun p => hY2'.out n0 _ hsay.out p)
                have hR := Lib.hid (hN2'.out n0)
                clear n0
                go_wp2_with fail
                go_at_call 13
                refine (cN _).mono ?_
                rintro e w2 ⟨hP, hb2⟩
                rcases hP with ⟨hc, rfl⟩ | ⟨tsB, allB, vB, hcB, hvB, rfl⟩
                · have hf := Lib.hid (hR.out hc)
                  clear hc
                  go_wp2
                  go_ret2
                  exact ⟨hf.out.symm, below_then hb1 hb2⟩
                · have hcB' := Lib.hid hcB
                  clear hcB
                  obtain ⟨AB, bB, offB, cB, rfl, hcB, hmB, hAB, hcellB⟩ := ns_at hvB
                  have hcellB' := Lib.hid hcellB
                  have hmxB : tsB.length ≤ 9223372036854775807 := by unfold maxLen at hmB; omega
                  have hAB' := Lib.hid hAB
                  clear hvB hcellB hAB
                  go_wp2
                  go_loopw [18, 20, 65] (fun sf sn sk wr => ∃ k : Nat, sk = .int .i64 (k : Int) ∧ k ≤ tsB.length ∧ sf = .bool (allB || inR (tsB.take k) t) ∧ wr = w2) (fun sf sn sk wr => tsB.length - (RowKit.intOf sk).toNat)
                  case atStart => exact ⟨0, rfl, Nat.zero_le _, by rw [show inR (tsB.take 0) t = false from rfl, Bool.or_false], rfl⟩
                  case round =>
                    obtain ⟨k, rfl, hk, rfl, hwr⟩ := hrel
                    subst hwr
                    by_cases hlt : k < tsB.length
                    · obtain rfl := hAB'.out (by omega)
                      have hx := hcellB'.out k hlt
                      have hstep := inR_step tsB t k hlt
                      generalize tsB[k] = n at hx hstep
                      obtain ⟨F, hF⟩ : ∃ F, (allB || inR (tsB.take k) t) = F := ⟨_, rfl⟩
                      have hnx : (allB || inR (tsB.take (k + 1)) t) = (F || decide ((n : Int) = t)) := by rw [hstep, ← hF, Bool.or_assoc]
                      have hnx' := Lib.hid hnx
                      rw [hF]
                      clear hF hstep hnx
                      cases F with
                      | true =>
                        go_wp2
                        go_roundw
                        case rel => exact ⟨k + 1, by go_num, by omega, by rw [hnx'.out]; rfl, trivial⟩
                        case measure => simp [RowKit.intOf]; omega
                      | false =>
                        by_cases he : (n : Int) = t
                        · have h1 : ((n : Int) == t) = true := by simp [he]
                          have hnd : (false || decide ((n : Int) = t)) = true := by rw [decide_eq_true he]; rfl
                          have hnd' := Lib.hid hnd
                          clear he hnd
                          go_wp2
                          go_roundw
                          case rel => exact ⟨k + 1, by go_num, by omega, by rw [hnx'.out, hnd'.out], trivial⟩
                          case measure => simp [RowKit.intOf]; omega
                        · have h1 : ((n : Int) == t) = false := by simp [he]
                          have hnd : (false || decide ((n : Int) = t)) = false := by rw [decide_eq_false he]; rfl
                          have hnd' := Lib.hid hnd
                          clear he hnd
                          go_wp2
                          go_roundw
                          case rel => exact ⟨k + 1, by go_num, by omega, by rw [hnx'.out, hnd'.out], trivial⟩
                          case measure => simp [RowKit.intOf]; omega
                    · have hz : ¬ (k : Int) < (tsB.length : Int) := by omega
                      rw [List.take_of_length_le (by omega)]
                      obtain ⟨FB, hFB⟩ : ∃ F, (allB || inR tsB t) = F := ⟨_, rfl⟩
                      rw [hFB]
                      clear hk
                      have hP2 : has (tsB, allB) t = (FB && decide (t ≠ 0)) := by rw [← hFB, Bool.and_comm]; rfl
                      have hf : E = .returned (.tuple #[.bool (false && !(FB && decide (t ≠ 0))), .bool true]) := by rw [← hP2]; exact hQ.out _ hcB'.out
                      clear hP2 hFB
                      by_cases ht : t = 0
                      · have h1 : (t != 0) = false := by simp [ht]
                        have hf' := Lib.hid (show E = .returned (.tuple #[.bool (false && !(FB && false)), .bool true]) by rw [hf, decide_eq_false (by simp [ht])])
                        clear ht hf
                        cases FB <;> (go_wp2; go_ret2; exact ⟨by rw [hf'.out]; first | rfl | simp, below_then hb1 hb2⟩)
                      · have h1 : (t != 0) = true := by simp [ht]
                        have hf' := Lib.hid (show E = .returned (.tuple #[.bool (false && !(FB && true)), .bool true]) by rw [hf, decide_eq_true ht])
                        clear ht hf
                        cases FB <;> (go_wp2; go_ret2; exact ⟨by rw [hf'.out]; first | rfl | simp, below_then hb1 hb2⟩)

            | true =>
              have ht0 : t ≠ 0 := by simpa using h1
              by_cases n0 : n.data.toList = []
              · have hz2 := ez n n0
                have hnz : ¬ (n.size : Int) > 0 := by omega
                have hnz0 : (n.size : Int) = 0 := by omega
                have hf := Lib.hid (hY1'.out n0 _ hsay.out)
                clear n0
                (go_wp2; go_ret2; exact ⟨by rw [hf.out]; first | rfl | simp, hb1⟩)
              · have hz2 := nz n n0
                have hnz : (n.size : Int) > 0 := by omega
                have hQ := Lib.hid (fun p => hY2'.out n0 _ hsay.out p)
                have hR := Lib.hid (hN2'.out n0)
                clear n0
                go_wp2_with fail
                go_at_call 13
                refine (cN _).mono ?_
                rintro e w2 ⟨hP, hb2⟩
                rcases hP with ⟨hc, rfl⟩ | ⟨tsB, allB, vB, hcB, hvB, rfl⟩
                · have hf := Lib.hid (hR.out hc)
                  clear hc
                  go_wp2
                  go_ret2
                  exact ⟨hf.out.symm, below_then hb1 hb2⟩
                · have hcB' := Lib.hid hcB
                  clear hcB
                  obtain ⟨AB, bB, offB, cB, rfl, hcB, hmB, hAB, hcellB⟩ := ns_at hvB
                  have hcellB' := Lib.hid hcellB
                  have hmxB : tsB.length ≤ 9223372036854775807 := by unfold maxLen at hmB; omega
                  have hAB' := Lib.hid hAB
                  clear hvB hcellB hAB
                  go_wp2
                  go_loopw [18, 20, 65] (fun sf sn sk wr => ∃ k : Nat, sk = .int .i64 (k : Int) ∧ k ≤ tsB.length ∧ sf = .bool (allB || inR (tsB.take k) t) ∧ wr = w2) (fun sf sn sk wr => tsB.length - (RowKit.intOf sk).toNat)
                  case atStart => exact ⟨0, rfl, Nat.zero_le _, by rw [show inR (tsB.take 0) t = false from rfl, Bool.or_false], rfl⟩
                  case round =>
                    obtain ⟨k, rfl, hk, rfl, hwr⟩ := hrel
                    subst hwr
                    by_cases hlt : k < tsB.length
                    · obtain rfl := hAB'.out (by omega)
                      have hx := hcellB'.out k hlt
                      have hstep := inR_step tsB t k hlt
                      generalize tsB[k] = n at hx hstep
                      obtain ⟨F, hF⟩ : ∃ F, (allB || inR (tsB.take k) t) = F := ⟨_, rfl⟩
                      have hnx : (allB || inR (tsB.take (k + 1)) t) = (F || decide ((n : Int) = t)) := by rw [hstep, ← hF, Bool.or_assoc]
                      have hnx' := Lib.hid hnx
                      rw [hF]
                      clear hF hstep hnx
                      cases F with
                      | true =>
                        go_wp2
                        go_roundw
                        case rel => exact ⟨k + 1, by go_num, by omega, by rw [hnx'.out]; rfl, trivial⟩
                        case measure => simp [RowKit.intOf]; omega
                      | false =>
                        by_cases he : (n : Int) = t
                        · have h1 : ((n : Int) == t) = true := by simp [he]
                          have hnd : (false || decide ((n : Int) = t)) = true := by rw [decide_eq_true he]; rfl
                          have hnd' := Lib.hid hnd
                          clear he hnd
                          go_wp2
                          go_roundw
                          case rel => exact ⟨k + 1, by go_num, by omega, by rw [hnx'.out, hnd'.out], trivial⟩
                          case measure => simp [RowKit.intOf]; omega
                        · have h1 : ((n : Int) == t) = false := by simp [he]
                          have hnd : (false || decide ((n : Int) = t)) = false := by rw [decide_eq_false he]; rfl
                          have hnd' := Lib.hid hnd
                          clear he hnd
                          go_wp2
                          go_roundw
                          case rel => exact ⟨k + 1, by go_num, by omega, by rw [hnx'.out, hnd'.out], trivial⟩
                          case measure => simp [RowKit.intOf]; omega
                    · have hz : ¬ (k : Int) < (tsB.length : Int) := by omega
                      rw [List.take_of_length_le (by omega)]
                      obtain ⟨FB, hFB⟩ : ∃ F, (allB || inR tsB t) = F := ⟨_, rfl⟩
                      rw [hFB]
                      clear hk
                      have hP2 : has (tsB, allB) t = (FB && decide (t ≠ 0)) := by rw [← hFB, Bool.and_comm]; rfl
                      have hf : E = .returned (.tuple #[.bool (true && !(FB && decide (t ≠ 0))), .bool true]) := by rw [← hP2]; exact hQ.out _ hcB'.out
                      clear hP2 hFB
                      by_cases ht : t = 0
                      · exact absurd ht ht0
                      · have h1 : (t != 0) = true := by simp [ht]
                        have hf' := Lib.hid (show E = .returned (.tuple #[.bool (true && !(FB && true)), .bool true]) by rw [hf, decide_eq_true ht])
                        clear ht hf
                        cases FB <;> (go_wp2; go_ret2; exact ⟨by rw [hf'.out]; first | rfl | simp, below_then hb1 hb2⟩)
end Go.Proofs.YtgpkkdimafmehaaDoor.Co
