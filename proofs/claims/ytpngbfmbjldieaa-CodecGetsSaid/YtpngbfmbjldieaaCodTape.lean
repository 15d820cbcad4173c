/-
  THE DOCUMENT's READER IN MEMORY ('TpIs': what is left, told as 'St'), and the walk of its number.
-/
import Derived.Test.YtpngbfmbjldieaaCodMem
import Derived.Deep.QuietTactic
set_option linter.unusedVariables false
namespace Go.Proofs.Ytpngbfmbjldieaa.Cd
open Go.Lib Go.RowKit
open Bo (Kp Row ownsRow_heap sv sv_data)
open Ly (BOwn Wr word text flag num word_len num_word num_snoc num_lt)

theorem below_drewN {a w : World} (n : Nat) (h : Below a.heap.size a w) : Below a.heap.size a (w.drewN n) := ⟨h.os, h.tape, h.output, h.size, h.block⟩
theorem below_then {a b c : World} (h1 : Below a.heap.size a b) (h2 : Below b.heap.size b c) : Below a.heap.size a c := h1.trans (h2.mono h1.size)
/-- the tape at block tb: its bytes, where it stands, whether they ended too early, whether one was wrong -/
structure TpR (w : World) (M tb : Nat) (full : Row) (A : Option Addr) (b off c k : Nat) (sh fm : Bool) : Prop where
  cells : w.heap[tb]? = some (.cells #[.slice A full.length c, .int .i64 (k : Int), .bool sh, .bool fm] 44 (0, 0))
  le : k ≤ full.length
  src : 0 < full.length → A = some ⟨b, off, none⟩ ∧ b < M ∧ b ≠ tb
  byts : ∀ j x, full[j]? = some x → w.cell? ⟨b, off + j, none⟩ = some (.int .u8 ((x : UInt8).toNat : Int))
  cap : full.length ≤ c
  cap2 : c ≤ maxLen
  lo : M ≤ w.heap.size
  tlo : tb < M
section
variable {w w' : World} {M tb : Nat} {full : Row} {A : Option Addr} {b off c k : Nat} {sh fm : Bool}
theorem TpR.lt (h : TpR w M tb full A b off c k sh fm) : tb < w.heap.size := (Array.getElem?_eq_some_iff.1 h.cells).1
/-- what is below M is all that counts -/
theorem TpR.frame (h : TpR w M tb full A b off c k sh fm) (hs : w.heap.size ≤ w'.heap.size) (hb : ∀ j, j < M → w'.heap[j]? = w.heap[j]?) : TpR w' M tb full A b off c k sh fm :=
  ⟨(hb tb h.tlo).trans h.cells, h.le, h.src, fun j x hj => by
    have hl : 0 < full.length := by have := (List.getElem?_eq_some_iff.1 hj).1; omega
    have e : w'.cell? ⟨b, off + j, none⟩ = w.cell? ⟨b, off + j, none⟩ := by simp [World.cell?, hb b (h.src hl).2.1]
    rw [e]
    exact h.byts j x hj, h.cap, h.cap2, Nat.le_trans h.lo hs, h.tlo⟩
theorem TpR.kept (h : TpR w M tb full A b off c k sh fm) (hb : Below w.heap.size w w') : TpR w' M tb full A b off c k sh fm :=
  h.frame hb.size fun j hj => hb.block j (Nat.lt_of_lt_of_le hj h.lo)
theorem TpR.put (h : TpR w M tb full A b off c k sh fm) (j : Nat) (v : Value) {k' : Nat} {sh' fm' : Bool} (hk : k' ≤ full.length) (hc : (#[.slice A full.length c, .int .i64 (k : Int), .bool sh, .bool fm] : Array Value).setIfInBounds j v = #[.slice A full.length c, .int .i64 (k' : Int), .bool sh', .bool fm']) : TpR (w.setCell ⟨tb, j, none⟩ v) M tb full A b off c k' sh' fm' := by
  refine ⟨?_, hk, h.src, fun i x hi => ?_, h.cap, h.cap2, by simp; exact h.lo, h.tlo⟩
  · rw [← hc]
    simp [World.setCell, Array.getElem?_modify, h.cells]
  · have hl : 0 < full.length := by have := (List.getElem?_eq_some_iff.1 hi).1; omega
    have e : (w.setCell ⟨tb, j, none⟩ v).cell? ⟨b, off + i, none⟩ = w.cell? ⟨b, off + i, none⟩ := by
      have hd : (w.setCell ⟨tb, j, none⟩ v).heap[b]? = w.heap[b]? := Below.heap_setCell _ _ _ b (h.src hl).2.2
      simp [World.cell?, hd]
    rw [e]
    exact h.byts i x hi
end
def stOf (full : Row) (k : Nat) (sh fm : Bool) : St := if sh = true then none else some (full.drop k, fm)
def TpIs (w : World) (M tb : Nat) (full : Row) (s : St) : Prop := ∃ A b off c k sh fm, TpR w M tb full A b off c k sh fm ∧ s = stOf full k sh fm
theorem TpIs.kept {w w' : World} {M tb : Nat} {full : Row} {s : St} (h : TpIs w M tb full s) (hb : Below w.heap.size w w') : TpIs w' M tb full s := by
  obtain ⟨A, b, off, c, k, sh, fm, h1, h2⟩ := h
  exact ⟨A, b, off, c, k, sh, fm, h1.kept hb, h2⟩
theorem TpIs.frame {w w' : World} {M tb : Nat} {full : Row} {s : St} (h : TpIs w M tb full s) (hs : w.heap.size ≤ w'.heap.size) (hb : ∀ j, j < M → w'.heap[j]? = w.heap[j]?) : TpIs w' M tb full s := by
  obtain ⟨A, b, off, c, k, sh, fm, h1, h2⟩ := h
  exact ⟨A, b, off, c, k, sh, fm, h1.frame hs hb, h2⟩
theorem TpIs.lt {w : World} {M tb : Nat} {full : Row} {s : St} (h : TpIs w M tb full s) : tb < w.heap.size := by
  obtain ⟨A, b, off, c, k, sh, fm, h1, h2⟩ := h
  exact h1.lt
theorem numS_none : numS none = (0, none) := rfl
theorem takeS_few {l : Row} {n : Nat} (f : Bool) (h : l.length < n) : takeS n (some (l, f)) = ([], none) := by
  show (if l.length < n then _ else _) = _
  rw [if_pos h]
theorem takeS_all {l : Row} {n : Nat} (f : Bool) (h : n ≤ l.length) : takeS n (some (l, f)) = (l.take n, some (l.drop n, f)) := by
  show (if l.length < n then _ else _) = _
  rw [if_neg (by omega)]
abbrev tp (tb : Nat) : Value := .pointer (some ⟨tb, 0, none⟩)
/-- where too few bytes are left, the tape is short behind -/
theorem TpR.fin_short {w W : World} {M tb : Nat} {full : Row} {A : Option Addr} {b off c k : Nat} {sh fm : Bool} (h : TpR w M tb full A b off c k sh fm) (hb : Below w.heap.size w W) : TpIs (W.setCell ⟨tb, 2, none⟩ (.bool true)) M tb full none ∧ Kp [tb] w (W.setCell ⟨tb, 2, none⟩ (.bool true)) :=
  ⟨⟨A, b, off, c, k, true, fm, (h.kept hb).put 2 _ h.le rfl, rfl⟩, (Kp.of_below hb).setCell (.inl (by simp)) _⟩
theorem TpR.fin_at {w W : World} {M tb : Nat} {full : Row} {A : Option Addr} {b off c k k' : Nat} {fm : Bool} (h : TpR w M tb full A b off c k false fm) (hb : Below w.heap.size w W) (hk : k' ≤ full.length) : TpIs (W.setCell ⟨tb, 1, none⟩ (.int .i64 (k' : Int))) M tb full (some (full.drop k', fm)) ∧ Kp [tb] w (W.setCell ⟨tb, 1, none⟩ (.int .i64 (k' : Int))) :=
  ⟨⟨A, b, off, c, k', false, fm, (h.kept hb).put 1 _ hk rfl, rfl⟩, (Kp.of_below hb).setCell (.inl (by simp)) _⟩
set_option maxHeartbeats 8000000 in
set_option maxRecDepth 100000 in
theorem tpNumber_any (w : World) (M tb : Nat) (full : Row) (s : St) (h : TpIs w M tb full s) (hl : full.length ≤ 140737488355328) :
    Calls Try.prog 33 #[tp tb] w fun e w' => e = .returned (.int .u64 ((numS s).1 : Int)) ∧ TpIs w' M tb full (numS s).2 ∧ Kp [tb] w w' := by
  obtain ⟨A, b, off, c, k, sh, fm, hR, rfl⟩ := h
  have hsh := Lib.hid (fun W hb => hR.fin_short (W := W) hb)
  have c0 := Lib.cell_of_heap hR.cells 0
  have c1 := Lib.cell_of_heap hR.cells 1
  have c2 := Lib.cell_of_heap hR.cells 2
  have f1 : w.frozen? ⟨tb, 1, none⟩ = false := Lib.frozen_of_heap hR.cells 1
  have f2 : w.frozen? ⟨tb, 2, none⟩ = false := Lib.frozen_of_heap hR.cells 2
  obtain ⟨n, hn⟩ : ∃ n, full.length = n := ⟨_, rfl⟩
  have hR' := Lib.hid hR
  have hkn : k ≤ n := by rw [← hn]; exact hR.le
  rw [hn] at c0 hl
  have hn' := Lib.hid hn
  clear hR hn
  cases sh
  · by_cases h8 : n - k < 8
    · have hnum : numS (stOf full k false fm) = (0, none) := by
        show numS (some (full.drop k, fm)) = _
        unfold numS
        rw [takeS_few fm (by rw [List.length_drop, hn'.out]; exact h8)]
        rfl
      rw [hnum]
      have d8 : (n : Int) - (k : Int) < 8 := by omega
      clear hnum
      go_enter Try.func33, Try.ntmps33
      go_wp2
      go_quiet (fail)
      go_wp2
      go_ret
      exact ⟨rfl, hsh.out _ (by first | exact Below.refl _ _ | exact below_drewN _ (Below.refl _ _) | exact Below.drew (Below.refl _ _))⟩
    · obtain ⟨m, hm⟩ : ∃ m, k + 8 = m := ⟨_, rfl⟩
      have hk8 : m ≤ n := by omega
      obtain ⟨x, hx⟩ : ∃ x, (full.drop k).take 8 = x := ⟨_, rfl⟩
      have hxl : x.length = 8 := by rw [← hx, List.length_take, List.length_drop, hn'.out]; omega
      have hnum : numS (stOf full k false fm) = (num x, some (full.drop m, fm)) := by
        show numS (some (full.drop k, fm)) = _
        unfold numS
        rw [takeS_all fm (by rw [List.length_drop, hn'.out]; omega), hx, List.drop_drop, hm]
      rw [hnum]
      have d8 : ¬ (n : Int) - (k : Int) < 8 := by omega
      obtain ⟨rfl, hbl, hbt⟩ := hR'.out.src (by rw [hn'.out]; omega)
      have hat := Lib.hid (fun W hb => hR'.out.fin_at (W := W) hb (k' := m) (by rw [hn'.out]; exact hk8))
      have hx' := Lib.hid (And.intro hx hxl)
      have hm' := Lib.hid hm
      clear hnum hx hxl hm
      go_enter Try.func33, Try.ntmps33
      go_wp2
      go_quiet (fail)
      go_wp2
      go_loopw [3, 4] (fun s3 s4 wr => ∃ i : Nat, s4 = .int .i64 (i : Int) ∧ i ≤ 8 ∧ s3 = .int .u64 (num (x.take i) : Int) ∧ Below w.heap.size w wr) (fun _ s4 wr => 8 - (RowKit.intOf s4).toNat)
      case atStart => exact ⟨0, by rfl, by omega, by rfl, by first | exact Below.refl _ _ | exact below_drewN _ (Below.refl _ _) | exact Below.drew (Below.refl _ _)⟩
      case round =>
        obtain ⟨i, rfl, hi, rfl, hbw⟩ := hrel
        have hRw := (hR'.out.kept hbw)
        have e0 := Lib.cell_of_heap hRw.cells 0
        have e1 := Lib.cell_of_heap hRw.cells 1
        have g1 : wr.frozen? ⟨tb, 1, none⟩ = false := Lib.frozen_of_heap hRw.cells 1
        rw [hn'.out] at e0
        by_cases hlt : i < 8
        · obtain ⟨N, hN⟩ : ∃ N, k + i = N := ⟨_, rfl⟩
          obtain ⟨u, hu⟩ : ∃ u, full[N]? = some u := ⟨_, List.getElem?_eq_getElem (by rw [hn'.out]; omega)⟩
          have hcb := hRw.byts N u hu
          have hxi : x[i]? = some u := by
            rw [← hx'.out.1, List.getElem?_take, if_pos hlt, List.getElem?_drop, hN]
            exact hu
          obtain ⟨z, hz⟩ : ∃ z : Nat, num (x.take i) = z := ⟨_, rfl⟩
          have hz256 : 256 * z < 18446744073709551616 := by
            have h1 := num_lt i (x.take i) (by rw [List.length_take, hx'.out.2]; omega)
            have h2 : 256 ^ i ≤ 256 ^ 7 := Nat.pow_le_pow_right (by decide) (by omega)
            rw [hz] at h1
            omega
          have hub := u.toNat_lt
          have hs : 256 * z + u.toNat < 18446744073709551616 := by
            have h1 := num_lt i (x.take i) (by rw [List.length_take, hx'.out.2]; omega)
            have h2 : 256 ^ i ≤ 256 ^ 7 := Nat.pow_le_pow_right (by decide) (by omega)
            rw [hz] at h1
            omega
          have hsn : num (x.take (i + 1)) = 256 * z + u.toNat := by
            have e := (List.getElem?_eq_some_iff.1 hxi)
            rw [List.take_succ_eq_append_getElem e.1, num_snoc, hz, e.2, Nat.mul_comm]
          have hkN : (k : Int) + (i : Int) = (N : Int) := by omega
          have hNw : IntKind.i64.wrap (N : Int) = (N : Int) := by rw [IntKind.wrap_i64]; omega
          have hN0 : (0 : Int) ≤ (N : Int) := by omega
          have hNn : (N : Int) < (n : Int) := by omega
          have hw1 : IntKind.u64.wrap (256 * (z : Int)) = 256 * (z : Int) := by unfold IntKind.wrap; simp only [IntKind.bits, IntKind.signed, Bool.false_and, Bool.false_eq_true, if_false]; omega
          have hw2 : IntKind.u64.wrap (u.toNat : Int) = (u.toNat : Int) := by unfold IntKind.wrap; simp only [IntKind.bits, IntKind.signed, Bool.false_and, Bool.false_eq_true, if_false]; omega
          have hw3 : IntKind.u64.wrap (256 * (z : Int) + (u.toNat : Int)) = 256 * (z : Int) + (u.toNat : Int) := by unfold IntKind.wrap; simp only [IntKind.bits, IntKind.signed, Bool.false_and, Bool.false_eq_true, if_false]; omega
          have hbw' := Lib.hid hbw
          have hsn' := Lib.hid hsn
          rw [hz]
          clear hRw hu hxi hbw hsn hN hz
          go_wp2
          go_quiet (fail)
          go_wp2
          go_roundw
          case rel => exact ⟨i + 1, by go_num, by omega, by rw [hsn'.out]; simp, by first | exact hbw'.out | exact below_drewN _ hbw'.out | exact Below.drew hbw'.out⟩
          case measure => simp [RowKit.intOf]; omega
        · obtain rfl : i = 8 := by omega
          have htk : x.take 8 = x := List.take_of_length_le (by rw [hx'.out.2]; exact Nat.le_refl _)
          rw [htk]
          have hkm : (k : Int) + 8 = (m : Int) := by have := hm'.out; omega
          have hbw' := Lib.hid hbw
          clear hRw htk hbw
          go_wp2
          go_ret
          exact ⟨rfl, hat.out _ hbw'.out⟩
  · have hnum : numS (stOf full k true fm) = (0, none) := rfl
    rw [hnum]
    clear hnum
    go_enter Try.func33, Try.ntmps33
    go_wp2
    go_quiet (fail)
    go_wp2
    go_ret
    exact ⟨rfl, hsh.out _ (by first | exact Below.refl _ _ | exact below_drewN _ (Below.refl _ _) | exact Below.drew (Below.refl _ _))⟩
end Go.Proofs.Ytpngbfmbjldieaa.Cd
