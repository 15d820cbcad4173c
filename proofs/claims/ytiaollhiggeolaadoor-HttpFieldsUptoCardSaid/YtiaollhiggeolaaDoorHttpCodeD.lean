/-
  WALKS OF THE PROGRAM's LAYER http: headEnd, requestRow, responseRow; what they want of the world ('Gw').
-/
import Derived.Test.YtiaollhiggeolaaDoorHttpCodeC
import Derived.Test.YtiaollhiggeolaaDoorCharDec
set_option linter.unusedVariables false
namespace Go.Proofs.YtiaollhiggeolaaDoor.Ht
open Go.Lib Go.RowKit Go.Shelf

/-! ### the world -/
/-- strconv's table of powers, bytealg's MaxLen some number -/
structure Gw (w : World) : Prop where
  pow : Ch.Pow w
  most : ∃ m, w.cell? ⟨0, 0, none⟩ = some (.int .i64 m)
theorem gw_keeps : Keeps Gw := fun w w' h hb => by
  obtain ⟨h1, m, h2⟩ := h
  refine ⟨Ch.pow_below h1 hb, m, ?_⟩
  rw [hb.cell (p := ⟨0, 0, none⟩) (World.block_lt_of_cell? _ _ h2)]; exact h2

/-! ### where a head ends -/
def HeadP (s : Row) (e : Ending) : Prop :=
  (∃ k : Nat, hdA true (s.take 8192) = some (spl (s.take k), k + 4) ∧ k + 4 ≤ s.length ∧ k + 4 ≤ 8192 ∧ e = .returned (.tuple #[.int .i64 ((k + 4 : Nat) : Int), .int .i64 0])) ∨
  (hdA true (s.take 8192) = none ∧ s.length < 8192 ∧ e = .returned (.tuple #[.int .i64 0, .int .i64 91])) ∨
  (hdA true (s.take 8192) = none ∧ ¬ s.length < 8192 ∧ e = .returned (.tuple #[.int .i64 0, .int .i64 80]))
set_option maxHeartbeats 4000000 in
set_option maxRecDepth 100000 in
theorem headEnd_any (s : ByteArray) (w : World) (hG : Gw w) (hs : s.size ≤ 140737488355328) : Calls Tryd.prog 42 #[.string s] w fun e w' => HeadP s.data.toList e ∧ Below w.heap.size w w' := by
  obtain ⟨m, hm⟩ := hG.most
  obtain ⟨N, hN, hN1, hN2⟩ : ∃ N : Nat, N = min s.size 8192 ∧ N ≤ s.size ∧ N ≤ 8192 := ⟨_, rfl, Nat.min_le_left _ _, Nat.min_le_right _ _⟩
  have ht : (s.extract 0 N).data.toList = s.data.toList.take 8192 := by
    rw [Lib.extract_data, List.drop_zero, Nat.sub_zero]
    rcases Nat.lt_or_ge s.size 8192 with h | h
    · rw [List.take_of_length_le (by rw [← Lib.size_eq]; omega), List.take_of_length_le (by rw [← Lib.size_eq]; omega)]
    · rw [show N = 8192 by omega]
  have hmin : (min (s.size : Int) 8192).toNat = N := by omega
  have hsz : (s.extract 0 N).size = N := by rw [ByteArray.size_extract]; omega
  have cI := Tryd.strings_Index (s.extract 0 N) ⟨#[13, 10, 13, 10]⟩ m w (by rw [hsz]; omega) hm
  rw [ht, show (⟨#[13, 10, 13, 10]⟩ : ByteArray).data.toList = qS from rfl] at cI
  have hsl : s.size = s.data.toList.length := Lib.size_eq s
  rcases hdA_index _ (s.data.toList.take 8192) (Nat.lt_succ_self _) with ⟨h1, h2⟩ | ⟨k, h1, h2, h3⟩
  · rw [h2] at cI
    by_cases hc : s.size < 8192
    · have hfin := Lib.hid (show HeadP s.data.toList (.returned (.tuple #[.int .i64 0, .int .i64 91])) from .inr (.inl ⟨h1, by omega, rfl⟩))
      clear h1 h2 ht hsl hN1 hN
      go_enter Tryd.func42, Tryd.ntmps42
      go_wp2_with fail
      go_at_call 55
      with_reducible refine cI.mono ?_
      rintro e w3 ⟨rfl, rfl⟩
      go_wp2
      go_ret2
      exact ⟨hfin.out, Below.refl _ _⟩
    · have hfin := Lib.hid (show HeadP s.data.toList (.returned (.tuple #[.int .i64 0, .int .i64 80])) from .inr (.inr ⟨h1, by omega, rfl⟩))
      clear h1 h2 ht hsl hN hN1
      go_enter Tryd.func42, Tryd.ntmps42
      go_wp2_with fail
      go_at_call 55
      with_reducible refine cI.mono ?_
      rintro e w3 ⟨rfl, rfl⟩
      go_wp2
      go_ret2
      exact ⟨hfin.out, Below.refl _ _⟩
  · rw [h1] at cI
    rw [List.length_take] at h2
    have hfin := Lib.hid (show HeadP s.data.toList (.returned (.tuple #[.int .i64 ((k + 4 : Nat) : Int), .int .i64 0])) from .inl ⟨k, by rw [h3, List.take_take, Nat.min_eq_left (by omega)], by omega, by omega, rfl⟩)
    have hk : k + 4 ≤ 8192 := by omega
    clear h1 h2 h3 ht hsl hN1 hN
    go_enter Tryd.func42, Tryd.ntmps42
    go_wp2_with fail
    go_at_call 55
    with_reducible refine cI.mono ?_
    rintro e w3 ⟨rfl, rfl⟩
    go_wp2
    go_ret2
    exact ⟨hfin.out, Below.refl _ _⟩
/-! ### first rows -/
def Cut1 (c : UInt8) (t : ByteArray) (a r : ByteArray) (b : Bool) : Prop := a.size ≤ t.size ∧ r.size ≤ t.size ∧ ((b = true ∧ cutB c t.data.toList = some (a.data.toList, r.data.toList)) ∨ (b = false ∧ cutB c t.data.toList = none ∧ a = t ∧ r = ⟨#[]⟩))
theorem cut_any (c : UInt8) (t : ByteArray) (w : World) (hs : t.size ≤ 140737488355328) :
    Calls Tryd.prog 45 #[.string t, .string ⟨#[c]⟩] w fun e w' => (∃ a r b, e = .returned (.tuple #[.string a, .string r, .bool b]) ∧ Cut1 c t a r b) ∧ Below w.heap.size w w' := by
  refine (Sc.sCut_any c t w hs).mono ?_
  rintro e w' ⟨hc, hb⟩
  refine ⟨?_, hb⟩
  rcases hc with ⟨h1, rfl⟩ | ⟨a, r, h1, h2, rfl⟩
  · exact ⟨t, ⟨#[]⟩, false, rfl, Nat.le_refl _, Nat.zero_le _, .inr ⟨rfl, cutB_none h1, rfl, rfl⟩⟩
  · refine ⟨a, r, true, rfl, ?_, ?_, .inl ⟨rfl, cut_some h1 h2⟩⟩
    · rw [Lib.size_eq, Lib.size_eq, h2]; simp
    · rw [Lib.size_eq, Lib.size_eq, h2]; simp; omega
def verB : ByteArray := ⟨#[72, 84, 84, 80, 47, 49, 46, 49]⟩
def ReqP (row : Row) (e : Ending) : Prop := ∃ (m t : ByteArray) (ok : Bool), e = .returned (.tuple #[.string m, .string t, .bool ok]) ∧ firstQ row = if ok = true then some (m.data.toList, t.data.toList) else none
theorem tB_nil : tB [] = false := by decide
theorem firstQ_is {s a r m t : ByteArray} {b d : Bool} (h1 : Cut1 32 s a r b) (h2 : Cut1 32 r m t d) : firstQ s.data.toList = if (mB a.data.toList && (tB m.data.toList && (t.toList == [72, 84, 84, 80, 47, 49, 46, 49]))) = true then some (a.data.toList, m.data.toList) else none := by
  obtain ⟨_, _, h1⟩ := h1
  obtain ⟨_, _, h2⟩ := h2
  rw [Lib.toList_data]
  unfold firstQ
  rcases h1 with ⟨_, h1⟩ | ⟨_, h1, rfl, rfl⟩
  · rw [h1, Option.bind_some]
    simp only
    rcases h2 with ⟨_, h2⟩ | ⟨_, h2, rfl, rfl⟩
    · rw [h2, Option.bind_some]
      simp only
      rw [asked_is]
      by_cases hc : (mB a.data.toList && tB m.data.toList) = true ∧ t.data.toList = verS
      · rw [if_pos hc, if_pos]
        rw [Bool.and_eq_true] at hc
        rw [hc.1.1, hc.1.2, hc.2]; rfl
      · rw [if_neg hc, if_neg]
        intro h
        simp only [Bool.and_eq_true, beq_iff_eq] at h
        exact hc ⟨by rw [Bool.and_eq_true]; exact ⟨h.1, h.2.1⟩, h.2.2⟩
    · rw [h2, Option.bind_none, if_neg]
      intro h
      simp at h
  · rw [h1, Option.bind_none, if_neg]
    intro h
    rcases h2 with ⟨_, h2⟩ | ⟨_, h2, rfl, rfl⟩
    · simp [cutB] at h2
    · simp at h
set_option maxHeartbeats 4000000 in
set_option maxRecDepth 100000 in
theorem requestRow_any (s : ByteArray) (w : World) (hs : s.size ≤ 140737488355328) : Calls Tryd.prog 29 #[.string s] w fun e w' => ReqP s.data.toList e ∧ Below w.heap.size w w' := by
  have cC := cut_any 32 s w hs
  go_enter Tryd.func29, Tryd.ntmps29
  go_wp2_with fail
  go_at_call 45
  with_reducible refine cC.mono ?_
  rintro e w1 ⟨⟨a, r, b, rfl, h1⟩, hb1⟩
  have ha := h1.1
  have hr := h1.2.1
  have cD := cut_any 32 r w1 (by omega)
  clear cC
  go_wp2_with fail
  go_at_call 45
  with_reducible refine cD.mono ?_
  rintro e w2 ⟨⟨m, t, d, rfl, h2⟩, hb2⟩
  have hm := h2.1
  have hb := Lib.hid (below_then hb1 hb2)
  have hfin := firstQ_is h1 h2
  have cM := isMethod_any a w2 (by omega)
  have cT := isTarget_any m w2 (by omega)
  clear cD h1 h2 hb1 hb2
  obtain ⟨M, hM⟩ : ∃ M, mB a.data.toList = M := ⟨_, rfl⟩
  obtain ⟨T, hT⟩ : ∃ T, tB m.data.toList = T := ⟨_, rfl⟩
  obtain ⟨L, hL⟩ : ∃ L, (t.toList == [72, 84, 84, 80, 47, 49, 46, 49]) = L := ⟨_, rfl⟩
  rw [hM] at cM
  rw [hT] at cT
  rw [hM, hT, hL] at hfin
  have hfin' := Lib.hid (show ReqP s.data.toList (.returned (.tuple #[.string a, .string m, .bool (M && (T && L))])) from ⟨a, m, _, rfl, hfin⟩)
  clear hfin hM hT
  cases M with
  | false =>
    go_wp2_with fail
    go_at_call 21
    with_reducible refine cM.mono ?_
    rintro e w3 ⟨rfl, rfl⟩
    go_wp2
    go_ret3
    exact ⟨hfin'.out, hb.out⟩
  | true =>
    cases T with
    | false =>
      go_wp2_with fail
      go_at_call 21
      with_reducible refine cM.mono ?_
      rintro e w3 ⟨rfl, rfl⟩
      go_wp2_with fail
      go_at_call 22
      with_reducible refine cT.mono ?_
      rintro e w3 ⟨rfl, rfl⟩
      go_wp2
      go_ret3
      exact ⟨hfin'.out, hb.out⟩
    | true =>
      go_wp2_with fail
      go_at_call 21
      with_reducible refine cM.mono ?_
      rintro e w3 ⟨rfl, rfl⟩
      go_wp2_with fail
      go_at_call 22
      with_reducible refine cT.mono ?_
      rintro e w3 ⟨rfl, rfl⟩
      go_wp2
      go_ret3
      exact ⟨hfin'.out, hb.out⟩
end Go.Proofs.YtiaollhiggeolaaDoor.Ht
