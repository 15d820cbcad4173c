/-
  A READER IN MEMORY (lay.Reader: what is left, whether the bytes ended too early, whether one was wrong), told as 'St' at every bytes: 'RdIs'. The walks of end, take, word, Whole.
-/
import Derived.Test.YtpngbfmbjldieaaRdrP
import Derived.Test.YtpngbfmbjldieaaCodRow
set_option linter.unusedVariables false
namespace Go.Proofs.Ytpngbfmbjldieaa.Ly
open Go.Lib Go.RowKit
open Bo (Kp Row ownsRow_heap sv sv_data)
open Cd (St takeS takeS_few takeS_all numS intS toI RowsAt wrap_toI numS_lt)

def encB (b : UInt8) : List Value := [.int .u8 (b.toNat : Int)]
/-- bytes wherever they read -/
abbrev BtsAt (w : World) (v : Value) (l : Row) : Prop := RowsAt 1 encB w v l
def RdIs (w : World) (rb : Nat) : St → Prop
  | none => ∃ fm, w.heap[rb]? = some (.cells #[.slice none 0 0, .bool true, .bool fm] 106 (0, 0))
  | some (l, fm) => ∃ A b off c, w.heap[rb]? = some (.cells #[.slice A l.length c, .bool false, .bool fm] 106 (0, 0)) ∧ l.length ≤ c ∧ c ≤ maxLen ∧ (A = none ∧ l = [] ∧ c = 0 ∨ A = some ⟨b, off, none⟩ ∧ b < rb) ∧ ∀ j x, l[j]? = some x → w.cell? ⟨b, off + j, none⟩ = some (.int .u8 ((x : UInt8).toNat : Int))
theorem RdIs.frame {w w' : World} {rb : Nat} : {s : St} → RdIs w rb s → (∀ k, k ≤ rb → w'.heap[k]? = w.heap[k]?) → RdIs w' rb s
  | none, ⟨fm, h⟩, hk => ⟨fm, (hk rb (Nat.le_refl _)).trans h⟩
  | some (l, fm), ⟨A, b, off, c, h1, h2, h3, h4, h5⟩, hk => ⟨A, b, off, c, (hk rb (Nat.le_refl _)).trans h1, h2, h3, h4, fun j x hj => by
    rcases h4 with ⟨_, e, _⟩ | ⟨_, hlt⟩
    · subst e; simp at hj
    · have e : w'.cell? ⟨b, off + j, none⟩ = w.cell? ⟨b, off + j, none⟩ := by simp [World.cell?, hk b (by omega)]
      rw [e]
      exact h5 j x hj⟩
theorem RdIs.lt {w : World} {rb : Nat} : {s : St} → RdIs w rb s → rb < w.heap.size
  | none, ⟨fm, h⟩ => (Array.getElem?_eq_some_iff.1 h).1
  | some (l, fm), ⟨A, b, off, c, h1, _⟩ => (Array.getElem?_eq_some_iff.1 h1).1
theorem RdIs.kept {w w' : World} {rb : Nat} {s : St} (h : RdIs w rb s) (hb : Below w.heap.size w w') : RdIs w' rb s := h.frame fun k hk => hb.block k (by have := h.lt; omega)
/-- the reader's cells, whatever its state -/
theorem RdIs.cells {w : World} {rb : Nat} {s : St} (h : RdIs w rb s) : ∃ A n c sh fm, w.heap[rb]? = some (.cells #[.slice A n c, .bool sh, .bool fm] 106 (0, 0)) := by
  cases s with
  | none => obtain ⟨fm, h⟩ := h; exact ⟨_, _, _, _, _, h⟩
  | some s => obtain ⟨l, fm⟩ := s; obtain ⟨A, b, off, c, h1, _⟩ := h; exact ⟨_, _, _, _, _, h1⟩
set_option maxHeartbeats 2000000 in
theorem rEnd_any (w : World) (rb : Nat) (A : Option Addr) (n c : Nat) (sh fm : Bool) (h : w.heap[rb]? = some (.cells #[.slice A n c, .bool sh, .bool fm] 106 (0, 0))) :
    Calls Try.prog 68 #[.pointer (some ⟨rb, 0, none⟩)] w fun e w' => e = .returned (.tuple #[]) ∧ RdIs w' rb none ∧ Kp [rb] w w' := by
  have c0 := Lib.cell_of_heap h 0
  have c1 := Lib.cell_of_heap h 1
  have f0 : w.frozen? ⟨rb, 0, none⟩ = false := Lib.frozen_of_heap h 0
  have f1 : w.frozen? ⟨rb, 1, none⟩ = false := Lib.frozen_of_heap h 1
  have hfin : RdIs ((w.setCell ⟨rb, 1, none⟩ (.bool true)).setCell ⟨rb, 0, none⟩ (.slice none 0 0)) rb none ∧ Kp [rb] w ((w.setCell ⟨rb, 1, none⟩ (.bool true)).setCell ⟨rb, 0, none⟩ (.slice none 0 0)) :=
    ⟨⟨fm, set_heap (set_heap h 1 _) 0 _⟩, ((Kp.refl _ _).setCell (.inl (by simp)) _).setCell (.inl (by simp)) _⟩
  have hfin' := Lib.hid hfin
  clear hfin h
  go_enter Try.func68, Try.ntmps68
  go_wp2
  go_end0
  exact ⟨rfl, hfin'.out⟩
theorem bts_nil (w : World) : BtsAt w (.slice none 0 0) [] := RowsAt.nil w
set_option maxHeartbeats 8000000 in
set_option maxRecDepth 100000 in
theorem rTake_any (w : World) (rb : Nat) (s : St) (n : Nat) (h : RdIs w rb s) :
    Calls Try.prog 62 #[.pointer (some ⟨rb, 0, none⟩), .int .i64 (n : Int)] w fun e w' => ∃ v, e = .returned v ∧ BtsAt w' v (takeS n s).1 ∧ RdIs w' rb (takeS n s).2 ∧ Kp [rb] w w' ∧ ((takeS n s).2 = none → v = .slice none 0 0) := by
  cases s with
  | none =>
    obtain ⟨fm, h⟩ := h
    have c0 := Lib.cell_of_heap h 0
    have f0 : w.frozen? ⟨rb, 0, none⟩ = false := Lib.frozen_of_heap h 0
    by_cases h0 : n = 0
    · subst h0
      have hfin : RdIs (w.setCell ⟨rb, 0, none⟩ (.slice none 0 0)) rb none ∧ Kp [rb] w (w.setCell ⟨rb, 0, none⟩ (.slice none 0 0)) := ⟨⟨fm, set_heap h 0 _⟩, (Kp.refl _ _).setCell (.inl (by simp)) _⟩
      have hfin' := Lib.hid hfin
      clear hfin h
      go_enter Try.func62, Try.ntmps62
      go_wp2
      go_ret
      exact ⟨_, rfl, bts_nil _, hfin'.out.1, hfin'.out.2, fun _ => rfl⟩
    · have hgt : decide ((0 : Int) < (n : Int)) = true := decide_eq_true (by omega)
      have cE := rEnd_any w rb none 0 0 true fm h
      clear h
      go_enter Try.func62, Try.ntmps62
      go_wp2_with fail
      go_at_call 68
      refine cE.mono ?_
      rintro e w1 ⟨rfl, hR, hK⟩
      have hF := Lib.hid (And.intro hR hK)
      clear cE hR hK c0 f0
      go_wp2
      go_ret
      exact ⟨_, rfl, bts_nil _, hF.out.1, hF.out.2, fun _ => rfl⟩
  | some s =>
    obtain ⟨full, fm⟩ := s
    obtain ⟨A, db, off, c, e1, e2, e3, hA, e4⟩ := h
    have c0 := Lib.cell_of_heap e1 0
    have f0 : w.frozen? ⟨rb, 0, none⟩ = false := Lib.frozen_of_heap e1 0
    by_cases hlt : full.length < n
    · rw [takeS_few fm hlt]
      obtain ⟨m, hm⟩ : ∃ m, full.length = m := ⟨_, rfl⟩
      have cE := rEnd_any w rb A full.length c false fm e1
      rw [hm] at c0 hlt
      have hgt : decide ((m : Int) < (n : Int)) = true := decide_eq_true (by omega)
      clear e1 e2 e4 hA hm
      go_enter Try.func62, Try.ntmps62
      go_wp2_with fail
      go_at_call 68
      refine cE.mono ?_
      rintro e w1 ⟨rfl, hR, hK⟩
      have hF := Lib.hid (And.intro hR hK)
      clear cE hR hK c0 f0
      go_wp2
      go_ret
      exact ⟨_, rfl, bts_nil _, hF.out.1, hF.out.2, fun _ => rfl⟩
    · rw [takeS_all fm (by omega)]
      obtain ⟨x, hx⟩ : ∃ x, full.take n = x := ⟨_, rfl⟩
      obtain ⟨l, hl⟩ : ∃ l, full.drop n = l := ⟨_, rfl⟩
      have hfl : full = x ++ l := by rw [← hx, ← hl, List.take_append_drop]
      have hxn : x.length = n := by rw [← hx, List.length_take]; omega
      have hln : full.length = n + l.length := by rw [hfl, List.length_append, hxn]
      show Calls Try.prog _ _ w fun e w' => ∃ v, e = .returned v ∧ BtsAt w' v (full.take n) ∧ RdIs w' rb (some (full.drop n, fm)) ∧ Kp [rb] w w' ∧ (some (full.drop n, fm) = none → v = .slice none 0 0)
      rw [hx, hl]
      rcases hA with ⟨rfl, hfe, rfl⟩ | ⟨rfl, hdb⟩
      · have h0 : n = 0 := by rw [hfe] at hln; simp at hln; omega
        have hx0 : x = [] := List.eq_nil_of_length_eq_zero (by omega)
        have hl0 : l = [] := List.eq_nil_of_length_eq_zero (by rw [hfe] at hln; simp at hln; omega)
        have hc0 : full.length = 0 := by rw [hfe]; rfl
        rw [hc0] at c0 e1
        subst h0 hx0 hl0
        have hfin : RdIs (w.setCell ⟨rb, 0, none⟩ (.slice none 0 0)) rb (some ([], fm)) ∧ Kp [rb] w (w.setCell ⟨rb, 0, none⟩ (.slice none 0 0)) := ⟨⟨none, 0, 0, 0, set_heap e1 0 _, Nat.le_refl _, Nat.zero_le _, .inl ⟨rfl, rfl, rfl⟩, fun j x hj => by simp at hj⟩, (Kp.refl _ _).setCell (.inl (by simp)) _⟩
        have hfin' := Lib.hid hfin
        clear hfin e1 e2 e4 hc0 hfe hfl hx hl hxn hln hlt
        go_enter Try.func62, Try.ntmps62
        go_wp2
        go_ret
        exact ⟨_, rfl, bts_nil _, hfin'.out.1, hfin'.out.2, fun h => by cases h⟩
      · rw [hln] at e1 e2 c0
        have hgt : decide ((n : Int) + (l.length : Int) < (n : Int)) = false := decide_eq_false (by omega)
        have hfin : ∀ off' c' wz, w.setCell ⟨rb, 0, none⟩ (.slice (some ⟨db, off', none⟩) l.length c') = wz → l.length ≤ c' → c' ≤ maxLen → (0 < l.length → off' = off + n) → (∀ cv, n ≤ cv → cv ≤ maxLen → BtsAt wz (.slice (some ⟨db, off, none⟩) n cv) x) ∧ RdIs wz rb (some (l, fm)) ∧ Kp [rb] w wz := fun off' c' wz hz hc1 hc2 hc3 => by
          have hd : wz.heap[db]? = w.heap[db]? := by rw [← hz]; exact Below.heap_setCell _ _ _ db (show db ≠ rb by omega)
          have hcell : ∀ j b, full[j]? = some b → wz.cell? ⟨db, off + j, none⟩ = some (.int .u8 ((b : UInt8).toNat : Int)) := fun j b hj => by
            have e : wz.cell? ⟨db, off + j, none⟩ = w.cell? ⟨db, off + j, none⟩ := by simp [World.cell?, hd]
            rw [e]
            exact e4 j b hj
          rw [hfl] at hcell
          have hrb : wz.heap[rb]? = some (.cells #[.slice (some ⟨db, off', none⟩) l.length c', .bool false, .bool fm] 106 (0, 0)) := by
            rw [← hz]
            exact set_heap e1 0 _
          have hK : Kp [rb] w wz := by rw [← hz]; exact (Kp.refl _ _).setCell (.inl (by simp)) _
          have hrs := (Array.getElem?_eq_some_iff.1 hrb).1
          refine ⟨fun cv h1 h2 => ⟨_, db, off, cv, by rw [hxn], by omega, h2, fun _ => ⟨rfl, by omega⟩, fun j b hj q u hu => ?_⟩, ⟨_, db, off', c', hrb, hc1, hc2, .inr ⟨rfl, hdb⟩, fun j b hj => ?_⟩, hK⟩
          · have hq := (List.getElem?_eq_some_iff.1 hu).1
            have hq0 : q = 0 := by simp [encB] at hq; omega
            subst hq0
            have hu' : Value.int .u8 (b.toNat : Int) = u := by simpa [encB] using hu
            rw [← hu', Nat.mul_one, Nat.add_zero]
            exact hcell j b (by rw [List.getElem?_append_left (List.getElem?_eq_some_iff.1 hj).1]; exact hj)
          · have := hcell (n + j) b (by rw [List.getElem?_append_right (by omega), hxn, Nat.add_sub_cancel_left]; exact hj)
            have hlp : 0 < l.length := by have := (List.getElem?_eq_some_iff.1 hj).1; omega
            rw [hc3 hlp, Nat.add_assoc]
            exact this
        have hfin' := Lib.hid hfin
        clear hfin e4 e1 hfl hx hl hlt hxn hdb
        by_cases hcn : c = n
        · subst hcn
          have hl0 : l.length = 0 := by omega
          clear hln
          go_enter Try.func62, Try.ntmps62
          go_wp2
          go_ret
          obtain ⟨r1, r2, r3⟩ := hfin'.out off 0 _ rfl (by omega) (Nat.zero_le _) (fun h => by omega)
          rw [hl0] at r1 r2 r3
          exact ⟨_, rfl, r1 c (Nat.le_refl _) e3, r2, r3, fun h => by cases h⟩
        · clear hln
          go_enter Try.func62, Try.ntmps62
          go_wp2
          go_ret
          obtain ⟨r1, r2, r3⟩ := hfin'.out (off + n) (c - n) _ rfl (by omega) (Nat.le_trans (Nat.sub_le _ _) e3) (fun _ => rfl)
          exact ⟨_, rfl, r1 c (by omega) e3, r2, r3, fun h => by cases h⟩
end Go.Proofs.Ytpngbfmbjldieaa.Ly
