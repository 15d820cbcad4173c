/-
  WALKS OF cond.names AND cond.Holds (slices.Contains at numbers).
-/
import Derived.Test.YtgpkkdimafmehaaDoorCondList
set_option linter.unusedVariables false
namespace Go.Proofs.YtgpkkdimafmehaaDoor.Co
open Go.Lib Go.RowKit Go.Shelf

/-- a number of a row, read -/
theorem ns_at {w : World} {v : Value} {ts : List Nat} (h : NsAt w v ts) : ∃ (A : Option Addr) (b off c : Nat), v = .slice A ts.length c ∧ ts.length ≤ c ∧ c ≤ maxLen ∧ (0 < ts.length → A = some ⟨b, off, none⟩) ∧
    ∀ (j : Nat) (h : j < ts.length), w.cell? ⟨b, off + j, none⟩ = some (.int .i64 ((ts[j] : Nat) : Int)) := by
  obtain ⟨A, b, off, c, h1, h2, h3, h4, h5⟩ := h
  exact ⟨A, b, off, c, h1, h2, h3, fun h => (h4 h).1, h5⟩
theorem any_take_step (ts : List Nat) (t : Int) (k : Nat) (hk : k < ts.length) : ((ts.take (k + 1)).any fun n => decide ((n : Int) = t)) = (((ts.take k).any fun n => decide ((n : Int) = t)) || decide (((ts[k] : Nat) : Int) = t)) := by
  rw [List.take_succ_eq_append_getElem hk, List.any_append]; simp

def inR (ts : List Nat) (t : Int) : Bool := ts.any fun n => decide ((n : Int) = t)
set_option maxHeartbeats 4000000 in
set_option maxRecDepth 100000 in
theorem index_any (v : Value) (ts : List Nat) (t : Int) (w : World) (hv : NsAt w v ts) (hl : ts.length ≤ 1099511627777) :
    Calls Tryd.prog 45 #[v, .int .i64 t] w fun e w' => (∃ z : Int, e = .returned (.int .i64 z) ∧ (decide (0 ≤ z) = inR ts t)) ∧ w' = w := by
  obtain ⟨A, b, off, c, rfl, hc, hm, hA, hcell⟩ := ns_at hv
  clear hv
  obtain ⟨R, hR⟩ : ∃ R, inR ts t = R := ⟨_, rfl⟩
  rw [hR]
  have hR' := Lib.hid hR
  have hcell' := Lib.hid hcell
  have hA' := Lib.hid hA
  clear hR hcell hA
  go_enter Tryd.func45, Tryd.ntmps45
  go_wp2
  go_loopw [5, 8] (fun s5 s8 wr => ∃ k : Nat, s8 = .int .i64 (k : Int) ∧ k ≤ ts.length ∧ ((ts.take k).any fun n => decide ((n : Int) = t)) = false ∧ wr = w) (fun s5 s8 wr => ts.length - (RowKit.intOf s8).toNat)
  case atStart => exact ⟨0, rfl, Nat.zero_le _, rfl, rfl⟩
  case round =>
    obtain ⟨k, rfl, hk, hno, rfl⟩ := hrel
    by_cases hlt : k < ts.length
    · obtain rfl := hA'.out (by omega)
      have hx := hcell'.out k hlt
      have hstep := Lib.hid (any_take_step ts t k hlt)
      obtain ⟨n, hn⟩ : ∃ n, ts[k] = n := ⟨_, rfl⟩
      rw [hn] at hx
      have hn' := Lib.hid hn
      have hno' := Lib.hid hno
      clear hn hno
      by_cases he : t = (n : Int)
      · have h1 : (t == (n : Int)) = true := by simp [he]
        have hf : decide ((0 : Int) ≤ (k : Int)) = R := by
          rw [decide_eq_true (by omega), ← hR'.out]
          unfold inR
          symm
          rw [List.any_eq_true]
          exact ⟨n, by rw [← hn'.out]; exact List.getElem_mem hlt, by simp [he]⟩
        have hf' := Lib.hid hf
        clear he hf
        go_wp2
        go_ret
        exact ⟨⟨_, rfl, hf'.out⟩, rfl⟩
      · have h1 : (t == (n : Int)) = false := by simp [he]
        have hnx : ((ts.take (k + 1)).any fun n => decide ((n : Int) = t)) = false := by
          rw [hstep.out, hno'.out, hn'.out]
          simp; omega
        have hnx' := Lib.hid hnx
        clear he hnx
        go_wp2
        go_roundw
        case rel => exact ⟨k + 1, by go_num, by omega, hnx'.out, trivial⟩
        case measure => simp [RowKit.intOf]; omega
    · have hf : decide ((0 : Int) ≤ -1) = R := by
        rw [List.take_of_length_le (by omega)] at hno
        rw [← hR'.out]
        unfold inR
        rw [hno]; rfl
      have hf' := Lib.hid hf
      clear hno hf
      go_wp2
      go_ret
      exact ⟨⟨_, rfl, hf'.out⟩, rfl⟩
set_option maxHeartbeats 4000000 in
set_option maxRecDepth 100000 in
theorem contains_any (v : Value) (ts : List Nat) (t : Int) (w : World) (hv : NsAt w v ts) (hl : ts.length ≤ 1099511627777) :
    Calls Tryd.prog 31 #[v, .int .i64 t] w fun e w' => e = .returned (.bool (inR ts t)) ∧ w' = w := by
  have cI := index_any v ts t w hv hl
  obtain ⟨A, b, off, c, rfl, _⟩ := ns_at hv
  clear hv
  go_enter Tryd.func31, Tryd.ntmps31
  go_wp2_with fail
  go_at_call 45
  refine cI.mono ?_
  rintro e w1 ⟨⟨z, rfl, hz⟩, rfl⟩
  go_wp2
  go_ret
  exact ⟨by rw [← hz]; rfl, rfl⟩

/-- what names answers -/
def namE (r : Option Bool) : Ending := match r with
  | none => .returned (.tuple #[.bool false, .int .i64 31])
  | some b => .returned (.tuple #[.bool b, .int .i64 0])
theorem eq_nil {s : ByteArray} : (s.toList == []) = decide (s.data.toList = []) := by
  rw [Lib.toList_data, Bool.eq_iff_iff, beq_iff_eq, decide_eq_true_iff]
theorem isE {s : ByteArray} : s.toList.isEmpty = decide (s.data.toList = []) := by
  rw [Lib.toList_data, Bool.eq_iff_iff, List.isEmpty_iff, decide_eq_true_iff]
set_option maxHeartbeats 8000000 in
set_option maxRecDepth 100000 in
theorem names_any (s : ByteArray) (t : Int) (w : World) (hs : s.size ≤ 1099511627776) :
    Calls Tryd.prog 25 #[.string s, .int .i64 t] w fun e w' => e = namE (nam s.data.toList t) ∧ Below w.heap.size w w' := by
  by_cases h0 : s.data.toList = []
  · have hE : s.toList.isEmpty = true := by rw [isE, decide_eq_true h0]
    rw [show nam s.data.toList t = some false by rw [h0]; rfl]
    clear h0
    go_enter Tryd.func25, Tryd.ntmps25
    go_wp2
    go_ret2
    exact ⟨rfl, Below.refl _ _⟩
  have hE : s.toList.isEmpty = false := by rw [isE, decide_eq_false h0]
  obtain ⟨E, hEn⟩ : ∃ E, namE (nam s.data.toList t) = E := ⟨_, rfl⟩
  rw [hEn]
  have hEn' := Lib.hid hEn
  have hnn : ∀ u, cond s.data.toList = none → nam s.data.toList u = none := fun u h => twin_none h h0 u
  have hns : ∀ p, cond s.data.toList = some p → nam s.data.toList t = some (has p t) := fun p h => twin_some h h0 t
  have hnn' := Lib.hid hnn
  have hns' := Lib.hid hns
  clear hEn hnn hns h0
  go_enter Tryd.func25, Tryd.ntmps25
  go_wp2_with fail
  go_at_call 12
  refine (list_any s w hs).mono ?_
  rintro e w1 ⟨hP, hb⟩
  rcases hP with ⟨hc, rfl⟩ | ⟨ts, all, v, hc, hv, rfl⟩
  · have hf : E = .returned (.tuple #[.bool false, .int .i64 31]) := by rw [← hEn'.out, hnn'.out t hc]; rfl
    have hf' := Lib.hid hf
    clear hc hf
    go_wp2
    go_ret2
    exact ⟨hf'.out.symm, hb⟩
  · have hf : E = .returned (.tuple #[.bool (decide (t ≠ 0) && (all || inR ts t)), .int .i64 0]) := by rw [← hEn'.out, hns'.out _ hc]; rfl
    have hf' := Lib.hid hf
    have hlen : ts.length ≤ 1099511627777 := by
      unfold cond at hc
      split at hc
      · cases hc; simp
      · cases hq : tagsOf (spl s.data.toList) with
        | none => rw [hq] at hc; cases hc
        | some us =>
          rw [hq] at hc
          cases hc
          rw [tagsOf_len hq]
          have := spl_len s.data.toList
          rw [← Lib.size_eq] at this
          omega
    have cC := contains_any v ts t w1 hv hlen
    clear hc hf hv hlen
    by_cases ht : t = 0
    · have h1 : (t != 0) = false := by simp [ht]
      rw [show (decide (t ≠ 0) && (all || inR ts t)) = false by simp [ht]] at hf'
      clear ht cC
      go_wp2
      go_ret2
      exact ⟨hf'.out.symm, hb⟩
    · have h1 : (t != 0) = true := by simp [ht]
      cases all with
      | true =>
        rw [show (decide (t ≠ 0) && (true || inR ts t)) = true by simp [ht]] at hf'
        clear ht cC
        go_wp2
        go_ret2
        exact ⟨hf'.out.symm, hb⟩
      | false =>
        rw [show (decide (t ≠ 0) && (false || inR ts t)) = inR ts t by simp [ht]] at hf'
        generalize inR ts t = R at hf' cC
        clear ht
        go_wp2_with (go_at_call 31; refine cC.mono ?_; rintro e w2 ⟨rfl, rfl⟩)
        go_ret2
        exact ⟨hf'.out.symm, hb⟩

set_option maxHeartbeats 8000000 in
set_option maxRecDepth 100000 in
theorem holds_any (m n : ByteArray) (t : Int) (w : World) (hm : m.size ≤ 1099511627776) (hn : n.size ≤ 1099511627776) :
    Calls Tryd.prog 14 #[.string m, .string n, .int .i64 t] w fun e w' => e = namE (hol m.data.toList n.data.toList t) ∧ Below w.heap.size w w' := by
  have cN := names_any m t w hm
  have cM := fun W => names_any n t W hn
  obtain ⟨E, hEn⟩ : ∃ E, namE (hol m.data.toList n.data.toList t) = E := ⟨_, rfl⟩
  rw [hEn]
  have hmE : m.toList.isEmpty = decide (m.data.toList = []) := isE
  have hnE : n.toList.isEmpty = decide (n.data.toList = []) := isE
  obtain ⟨P, hP⟩ : ∃ P, decide (m.data.toList = []) = P := ⟨_, rfl⟩
  obtain ⟨Q, hQ⟩ : ∃ Q, decide (n.data.toList = []) = Q := ⟨_, rfl⟩
  have hno : nam m.data.toList t = none ∨ nam n.data.toList t = none → E = .returned (.tuple #[.bool false, .int .i64 31]) := fun h => by rw [← hEn, hol_none h]; rfl
  have hye : ∀ a b, nam m.data.toList t = some a → nam n.data.toList t = some b → E = .returned (.tuple #[.bool ((P || a) && (Q || !b)), .int .i64 0]) := fun a b h1 h2 => by rw [← hEn, hol_some h1 h2, hP, hQ]; rfl
  rw [hP] at hmE
  rw [hQ] at hnE
  obtain ⟨x, hx⟩ : ∃ x, nam m.data.toList t = x := ⟨_, rfl⟩
  obtain ⟨y, hy⟩ : ∃ y, nam n.data.toList t = y := ⟨_, rfl⟩
  rw [hx] at cN hno hye
  rw [hy] at cM hno hye
  clear hEn hP hQ hx hy
  cases x with
  | none =>
    have hf := Lib.hid (hno (.inl rfl))
    clear hno hye
    cases y with
    | none =>
      unfold namE at cN cM
      go_enter Tryd.func14, Tryd.ntmps14
      go_wp2_with fail
      go_at_call 25
      refine cN.mono ?_
      rintro e w1 ⟨rfl, hb1⟩
      go_wp2_with fail
      go_at_call 25
      refine (cM _).mono ?_
      rintro e w2 ⟨rfl, hb2⟩
      go_wp2
      go_ret2
      exact ⟨hf.out.symm, below_then hb1 hb2⟩
    | some b =>
      unfold namE at cN cM
      go_enter Tryd.func14, Tryd.ntmps14
      go_wp2_with fail
      go_at_call 25
      refine cN.mono ?_
      rintro e w1 ⟨rfl, hb1⟩
      go_wp2_with fail
      go_at_call 25
      refine (cM _).mono ?_
      rintro e w2 ⟨rfl, hb2⟩
      go_wp2
      go_ret2
      exact ⟨hf.out.symm, below_then hb1 hb2⟩
  | some a =>
    cases y with
    | none =>
      have hf := Lib.hid (hno (.inr rfl))
      clear hno hye
      unfold namE at cN cM
      go_enter Tryd.func14, Tryd.ntmps14
      go_wp2_with fail
      go_at_call 25
      refine cN.mono ?_
      rintro e w1 ⟨rfl, hb1⟩
      go_wp2_with fail
      go_at_call 25
      refine (cM _).mono ?_
      rintro e w2 ⟨rfl, hb2⟩
      go_wp2
      go_ret2
      exact ⟨hf.out.symm, below_then hb1 hb2⟩
    | some b =>
      have hf := hye a b rfl rfl
      clear hno hye
      unfold namE at cN cM
      cases P <;> cases a <;> cases Q <;> cases b <;>
        (have hf' := Lib.hid hf
         clear hf
         go_enter Tryd.func14, Tryd.ntmps14
         go_wp2_with fail
         go_at_call 25
         refine cN.mono ?_
         rintro e w1 ⟨rfl, hb1⟩
         go_wp2_with fail
         go_at_call 25
         refine (cM _).mono ?_
         rintro e w2 ⟨rfl, hb2⟩
         go_wp2
         go_ret2
         exact ⟨hf'.out.symm, below_then hb1 hb2⟩)
end Go.Proofs.YtgpkkdimafmehaaDoor.Co
