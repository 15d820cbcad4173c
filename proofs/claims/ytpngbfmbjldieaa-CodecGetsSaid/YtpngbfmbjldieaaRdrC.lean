/-
  A READER IN MEMORY: the walks of Flag, Text, End, Of.
-/
import Derived.Test.YtpngbfmbjldieaaRdrB
import Derived.Shelf.Bytes.SlSmallAll
set_option linter.unusedVariables false
namespace Go.Proofs.Ytpngbfmbjldieaa.Ly
open Go.Lib Go.RowKit
open Bo (Kp Row ownsRow_heap sv sv_data)
open Cd (St takeS takeS_few takeS_all numS intS toI RowsAt numS_lt cntS cntB txtS bytS flgS wrong endS)

theorem bytS_lt (s : St) : (bytS s).1 < 256 := by
  show num (takeS 1 s).1 < 256
  rcases take_len 1 s with h | ⟨h, _⟩
  · have := num_lt 1 _ h; simpa using this
  · rw [h]; decide
set_option maxHeartbeats 4000000 in
theorem rFlag_any (w : World) (rb : Nat) (s : St) (h : RdIs w rb s) :
    Calls Try.prog 65 #[rr rb] w fun e w' => e = .returned (.bool (flgS s).1) ∧ RdIs w' rb (flgS s).2 ∧ Kp [rb] w w' := by
  have cB := rByte_any w rb s h
  have hlt := bytS_lt s
  show Calls Try.prog _ _ w fun e w' => e = .returned (.bool (decide ((bytS s).1 = 1))) ∧ RdIs w' rb (wrong (decide (1 < (bytS s).1)) (bytS s).2) ∧ Kp [rb] w w'
  obtain ⟨n, hn⟩ : ∃ n, (bytS s).1 = n := ⟨_, rfl⟩
  obtain ⟨s2, hs2⟩ : ∃ x, (bytS s).2 = x := ⟨_, rfl⟩
  rw [hn, hs2] at cB ⊢
  rw [hn] at hlt
  obtain ⟨b, hb⟩ : ∃ b, decide (n ≤ 1) = b := ⟨_, rfl⟩
  obtain ⟨d, hd⟩ : ∃ d, decide (n = 1) = d := ⟨_, rfl⟩
  have hb1 : decide (1 < n) = !b := by rw [← hb]; by_cases h1 : n ≤ 1 <;> simp [h1] <;> omega
  have hbi : decide ((n : Int) ≤ 1) = b := by rw [← hb]; exact decide_eq_decide.2 (by omega)
  have hdi : ((n : Int) == 1) = d := by rw [← hd]; by_cases h1 : n = 1 <;> simp [h1] <;> omega
  have hdn : (n == 1) = d := by rw [← hd]; by_cases h1 : n = 1 <;> simp [h1]
  rw [hb1, hd]
  clear hn hs2 h hb1 hd
  go_enter Try.func65, Try.ntmps65
  go_wp2_with fail
  go_at_call 52
  refine cB.mono ?_
  rintro e w1 ⟨rfl, hR, hK⟩
  have cN := rNeed_any w1 rb s2 b hR
  have hK' := Lib.hid hK
  clear cB hR hK
  go_wp2_with fail
  go_at_call 54
  refine cN.mono ?_
  rintro e w2 ⟨rfl, hR, hK⟩
  have hX := Lib.hid (And.intro hR (hK'.out.trans hK))
  clear cN hR hK
  go_wp2
  go_ret
  exact ⟨rfl, hX.out⟩
theorem conv_at {W : World} {v : Value} {l : Row} (h : BtsAt W v l) : (convert 22 9 v).run Try.prog W = .ok (sv l) W := by
  obtain ⟨A, b, off, c, rfl, k1, k2, k3, k4⟩ := bts_one h
  cases l with
  | nil => exact run_convert_bytes_zero W 22 5 Try.underlying22 Try.underlying5 A c 9 Try.underlying9
  | cons x l =>
    obtain ⟨rfl, _⟩ := k3 (by simp)
    refine run_convert_bytes_back W 22 9 5 ⟨b, off, none⟩ c (x :: l) Try.underlying22 Try.underlying5 Try.underlying9 fun j hj => ?_
    have hp : (⟨b, off, none⟩ : Addr).add j = ⟨b, off + j, none⟩ := by unfold Addr.add; split <;> simp_all
    rw [hp, k4 j _ (List.getElem?_eq_getElem hj)]
theorem RdIs.most {w : World} {rb : Nat} {l : Row} {f : Bool} (h : RdIs w rb (some (l, f))) : l.length ≤ maxLen := by
  obtain ⟨A, b, off, c, h1, h2, h3, _⟩ := h
  exact Nat.le_trans h2 h3
set_option maxHeartbeats 4000000 in
theorem rText_any (w : World) (rb : Nat) (s : St) (h : RdIs w rb s) :
    Calls Try.prog 49 #[rr rb] w fun e w' => e = .returned (sv (txtS s).1) ∧ RdIs w' rb (txtS s).2 ∧ Kp [rb] w w' := by
  have cC := rCount_any w rb s h
  show Calls Try.prog _ _ w fun e w' => e = .returned (sv (takeS (cntS s).1 (cntS s).2).1) ∧ RdIs w' rb (takeS (cntS s).1 (cntS s).2).2 ∧ Kp [rb] w w'
  obtain ⟨n, hn⟩ : ∃ n, (cntS s).1 = n := ⟨_, rfl⟩
  obtain ⟨s2, hs2⟩ : ∃ x, (cntS s).2 = x := ⟨_, rfl⟩
  rw [hn, hs2] at cC ⊢
  obtain ⟨x, hx⟩ : ∃ x, (takeS n s2).1 = x := ⟨_, rfl⟩
  rw [hx]
  unfold sv
  have hx' := Lib.hid hx
  clear hs2 h hx
  go_enter Try.func49, Try.ntmps49
  go_wp2_with fail
  go_at_call 63
  refine cC.mono ?_
  rintro e w1 ⟨rfl, hR, hK⟩
  have cT := rTake_any w1 rb s2 n hR
  rw [hx'.out] at cT
  have hK' := Lib.hid hK
  clear cC hR hK hn
  go_wp2_with fail
  go_at_call 62
  refine cT.mono ?_
  rintro e w2 ⟨v, rfl, hb, hR, hK, -⟩
  have hcv := conv_at hb
  have hX := Lib.hid (And.intro hR (hK'.out.trans hK))
  obtain ⟨A, db, off, c, rfl, -, -, -, -⟩ := bts_one hb
  unfold sv at hcv
  clear cT hb hR hK
  go_wp2
  go_ret
  exact ⟨rfl, hX.out⟩
set_option maxHeartbeats 4000000 in
theorem rEndS_any (w : World) (rb : Nat) (s : St) (h : RdIs w rb s) :
    Calls Try.prog 47 #[rr rb] w fun e w' => e = .returned (.int .i64 (endS s : Int)) ∧ w' = w := by
  cases s with
  | none =>
    obtain ⟨fm, h⟩ := h
    have c1 := Lib.cell_of_heap h 1
    clear h
    go_enter Try.func47, Try.ntmps47
    go_wp2
    go_ret
    exact ⟨rfl, rfl⟩
  | some y =>
    obtain ⟨l, fm⟩ := y
    obtain ⟨A, db, off, c, h, -, -, -, -⟩ := h
    have c0 := Lib.cell_of_heap h 0
    have c1 := Lib.cell_of_heap h 1
    have c2 := Lib.cell_of_heap h 2
    obtain ⟨n, hn⟩ : ∃ n, l.length = n := ⟨_, rfl⟩
    show Calls Try.prog _ _ w fun e w' => e = .returned (.int .i64 ((if 0 < l.length then 151 else if fm = true then 31 else 0 : Nat) : Int)) ∧ w' = w
    rw [hn] at c0 ⊢
    clear h hn
    by_cases h0 : 0 < n
    · have hd : decide (0 < n) = true := decide_eq_true h0
      have hdi : decide (0 < (n : Int)) = true := decide_eq_true (by omega)
      rw [if_pos h0]
      clear h0
      go_enter Try.func47, Try.ntmps47
      go_wp2
      go_ret
      exact ⟨rfl, rfl⟩
    · have hd : decide (0 < n) = false := decide_eq_false h0
      have hdi : decide (0 < (n : Int)) = false := decide_eq_false (by omega)
      rw [if_neg h0]
      clear h0
      cases fm
      · go_enter Try.func47, Try.ntmps47
        go_wp2
        go_ret
        exact ⟨rfl, rfl⟩
      · go_enter Try.func47, Try.ntmps47
        go_wp2
        go_ret
        exact ⟨rfl, rfl⟩
/-- bytes that a reader may be laid on -/
def BIn (w : World) (v : Value) (l : Row) : Prop := ∃ A b off c, v = .slice A l.length c ∧ l.length ≤ c ∧ c ≤ maxLen ∧ (A = none ∧ l = [] ∧ c = 0 ∨ A = some ⟨b, off, none⟩ ∧ b < w.heap.size) ∧ ∀ j x, l[j]? = some x → w.cell? ⟨b, off + j, none⟩ = some (.int .u8 ((x : UInt8).toNat : Int))
theorem BIn.kept {w w' : World} {v : Value} {l : Row} (h : BIn w v l) (hb : Below w.heap.size w w') : BIn w' v l := by
  obtain ⟨A, b, off, c, h1, h2, h3, h4, h5⟩ := h
  refine ⟨A, b, off, c, h1, h2, h3, ?_, fun j x hj => ?_⟩
  · rcases h4 with h4 | ⟨h4, h6⟩
    · exact .inl h4
    · exact .inr ⟨h4, Nat.lt_of_lt_of_le h6 hb.size⟩
  · rcases h4 with ⟨_, e, _⟩ | ⟨_, hlt⟩
    · subst e; simp at hj
    · rw [hb.cell (p := ⟨b, off + j, none⟩) hlt]
      exact h5 j x hj
theorem BOwn.bin {w : World} {B : Nat} {v : Value} {l : Row} (h : BOwn B v l w) : BIn w v l := by
  rcases h.2 with ⟨hv, hn⟩ | ⟨g, cap, cur, e1, e2, e3, e4, e5, _⟩
  · obtain rfl : l = [] := List.eq_nil_of_length_eq_zero hn
    exact ⟨none, 0, 0, 0, hv, Nat.le_refl _, Nat.zero_le _, .inl ⟨rfl, rfl, rfl⟩, fun j x hj => by simp at hj⟩
  · have h' : w.ownsRow B 5 1 (.slice (some ⟨g, 0, none⟩) l.length cap) l.length (bc l) := e1 ▸ h
    refine ⟨_, g, 0, cap, e1, e4, e5, .inr ⟨rfl, (Array.getElem?_eq_some_iff.1 e3).1⟩, fun j x hj => ?_⟩
    have := h'.cells rfl j (.int .u8 (x.toNat : Int)) (by simp [bc, hj])
    have hp : (⟨g, 0, none⟩ : Addr).add j = ⟨g, j, none⟩ := by unfold Addr.add; split <;> simp_all
    rw [hp] at this
    rw [Nat.zero_add]
    exact this
set_option maxHeartbeats 2000000 in
theorem rOf_any (w : World) (v : Value) (l : Row) (h : BIn w v l) :
    Calls Try.prog 46 #[v] w fun e w' => e = .returned (rr w.heap.size) ∧ RdIs w' w.heap.size (some (l, false)) ∧ Below w.heap.size w w' := by
  obtain ⟨A, b, off, c, rfl, h1, h2, h3, h4⟩ := h
  have hfin : ∀ wz, w.alloc (.cells #[.slice A l.length c, .bool false, .bool false] 106) = wz → RdIs wz w.heap.size (some (l, false)) ∧ Below w.heap.size w wz := fun wz hz => by
    have hb : Below w.heap.size w wz := by rw [← hz]; exact (Below.refl _ _).alloc (Nat.le_refl _) _
    refine ⟨⟨A, b, off, c, by rw [← hz]; exact heap_alloc_new w _, h1, h2, h3, fun j x hj => ?_⟩, hb⟩
    rcases h3 with ⟨_, e, _⟩ | ⟨_, hlt⟩
    · subst e; simp at hj
    · rw [hb.cell (p := ⟨b, off + j, none⟩) hlt]
      exact h4 j x hj
  have hfin' := Lib.hid hfin
  clear hfin h4
  go_enter Try.func46, Try.ntmps46
  go_wp2
  go_ret
  exact ⟨rfl, hfin'.out _ rfl⟩
end Go.Proofs.Ytpngbfmbjldieaa.Ly
