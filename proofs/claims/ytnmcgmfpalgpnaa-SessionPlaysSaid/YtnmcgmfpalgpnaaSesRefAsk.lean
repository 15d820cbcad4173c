/-
  THE WALK OF THE REFERENCE's Ask.
-/
import Derived.Test.YtnmcgmfpalgpnaaSesMem
set_option linter.unusedVariables false
namespace Go.Proofs.Ytnmcgmfpalgpnaa.Se
open Go.Lib Go.RowKit

abbrev nS : ByteArray := ⟨#[]⟩
abbrev TabR := Tab eS 29 42
abbrev RsS := RsAt eS
theorem row_none {α : Type} {t : Tb α} {id : Int} (h : ∀ r ∈ t, r.id ≠ id) : rowOf t id = none := List.find?_eq_none.2 fun r hr => by simpa using h r hr
theorem row_some {α : Type} {t : Tb α} {id : Int} {i : Nat} {r : Ro α} (hi : t[i]? = some r) (h : ∀ y ∈ t.take i, y.id ≠ id) (hr : r.id = id) : rowOf t id = some r := by
  obtain ⟨hl, hv⟩ := List.getElem?_eq_some_iff.1 hi
  have ht : t = t.take i ++ r :: t.drop (i + 1) := by rw [← hv, ← List.drop_eq_getElem_cons hl, List.take_append_drop]
  unfold rowOf
  rw [ht, List.find?_append, List.find?_eq_none.2 (fun y hy => by simpa using h y hy)]
  simp [hr]
theorem take_more {α : Type} {t : List α} {i : Nat} {r : α} (hi : t[i]? = some r) {P : α → Prop} (h : ∀ y ∈ t.take i, P y) (hr : P r) : ∀ y ∈ t.take (i + 1), P y := by
  obtain ⟨hl, hv⟩ := List.getElem?_eq_some_iff.1 hi
  intro y hy
  rw [List.take_succ_eq_append_getElem hl, hv, List.mem_append, List.mem_singleton] at hy
  rcases hy with hy | rfl
  · exact h y hy
  · exact hr
def askE {α : Type} (em : α → Value) (z : α) (t : Tb α) (id seq : Int) : Ending := .returned (.tuple #[.int .i64 ((askT z t id seq).1 : Int), em (askT z t id seq).2])

set_option maxHeartbeats 4000000 in
set_option maxRecDepth 100000 in
theorem refAsk_any (b : Nat) (v : Value) (t : Tb ByteArray) (id seq : Int) (w : World) (hbl : w.heap[b]? = some (.cells #[v] 29 (0, 0))) (hv : RsS w v t) (ht : t.length ≤ 1099511627776) :
    Calls Try.prog 11 #[.pointer (some ⟨b, 0, none⟩), .int .i64 id, .int .i64 seq] w fun e w' => e = askE eS nS t id seq ∧ Below w.heap.size w w' := by
  have hno : (∀ r ∈ t, r.id ≠ id) → askE eS nS t id seq = .returned (.tuple #[.int .i64 0, .string nS]) := fun h => by
    unfold askE askT; rw [row_none h]; rfl
  have hyes : ∀ (i : Nat) (r : Ro ByteArray), t[i]? = some r → (∀ y ∈ t.take i, y.id ≠ id) → r.id = id →
      (r.last < seq → askE eS nS t id seq = .returned (.tuple #[.int .i64 1, .string nS])) ∧ (¬ r.last < seq → seq = r.last → 1 ≤ seq → askE eS nS t id seq = .returned (.tuple #[.int .i64 2, .string r.x])) ∧
      (¬ r.last < seq → ¬ (seq = r.last ∧ 1 ≤ seq) → askE eS nS t id seq = .returned (.tuple #[.int .i64 3, .string nS])) := fun i r hi h hr => by
    unfold askE askT
    rw [row_some hi h hr]
    refine ⟨fun h1 => ?_, fun h1 h2 h3 => ?_, fun h1 h2 => ?_⟩
    · simp only; rw [if_pos h1]; rfl
    · simp only; rw [if_neg h1, if_pos ⟨h2, h3⟩]; rfl
    · simp only; rw [if_neg h1, if_neg h2]; rfl
  generalize askE eS nS t id seq = R at hno hyes ⊢
  obtain ⟨A, g, off, c, rfl, h1, h2, h3, h4⟩ := hv
  obtain ⟨n, hn⟩ : ∃ n, t.length = n := ⟨_, rfl⟩
  have hcell : w.cell? ⟨b, 0, none⟩ = some (.slice A n c) := by rw [Lib.cell_of_heap hbl, hn]; rfl
  rw [hn] at ht h1 h3
  have hn' := Lib.hid hn
  have hno' := Lib.hid hno
  have hyes' := Lib.hid hyes
  have h3' := Lib.hid h3
  have h4' := Lib.hid h4
  unfold maxLen at h2
  clear hno hyes hn h3 h4 hbl
  go_enter Try.func11, Try.ntmps11
  go_wp2
  go_loopw [15] (fun s15 wr => ∃ i : Nat, s15 = .int .i64 (i : Int) ∧ i ≤ n ∧ Below w.heap.size w wr ∧ ∀ y ∈ t.take i, y.id ≠ id) (fun s15 wr => n - (RowKit.intOf s15).toNat)
  case atStart => exact ⟨0, rfl, Nat.zero_le _, Below.refl _ _, fun x hx => by simp at hx⟩
  case round =>
    obtain ⟨i, rfl, hi, hbw, hall⟩ := hrel
    have hall' := Lib.hid hall
    clear hall
    by_cases hlt : i < n
    · obtain ⟨r, hr⟩ : ∃ r, t[i]? = some r := ⟨_, List.getElem?_eq_getElem (by rw [hn'.out]; exact hlt)⟩
      obtain ⟨rfl, hg⟩ := h3'.out (by omega)
      obtain ⟨k0, k1, k2, k3⟩ := h4'.out i r hr
      have hc := hbw.cell (p := ⟨g, off + i * 4, none⟩) hg
      have hc1 := hbw.cell (p := ⟨g, off + i * 4 + 1, none⟩) hg
      have hc2 := hbw.cell (p := ⟨g, off + i * 4 + 2, none⟩) hg
      have hc3 := hbw.cell (p := ⟨g, off + i * 4 + 3, none⟩) hg
      rw [k0] at hc
      rw [k1] at hc1
      rw [k2] at hc2
      rw [k3] at hc3
      have hr' := Lib.hid hr
      have hbw' := Lib.hid hbw
      clear hr k0 k1 k2 k3 hbw
      obtain ⟨rid, rl, ru, rx⟩ := r
      simp only at hc hc1 hc2 hc3
      have hal : Below w.heap.size w (wr.alloc (.cells #[.int .i64 rid, .int .i64 rl, .int .i64 ru, .string rx] 42)) := hbw'.out.alloc hbw'.out.size _
      have hal' := Lib.hid hal
      clear hal
      by_cases e1 : rid = id
      · have d1 : (rid != id) = false := by rw [e1]; simp
        obtain ⟨y1, y2, y3⟩ := hyes'.out i _ hr'.out hall'.out e1
        simp only at y1 y2 y3
        have y1' := Lib.hid y1
        have y2' := Lib.hid y2
        have y3' := Lib.hid y3
        clear y1 y2 y3 e1
        by_cases e2 : rl < seq
        · have hR := Lib.hid (y1'.out e2)
          go_wp2
          go_ret2
          exact ⟨hR.out.symm, hal'.out⟩
        · by_cases e3 : seq = rl
          · by_cases e4 : 1 ≤ seq
            · have hR := Lib.hid (y2'.out (by omega) e3 e4)
              have d3 : (seq == rl) = true := by rw [e3]; simp
              clear e3
              go_wp2
              go_quiet (fail)
              go_wp2
              go_ret2
              exact ⟨hR.out.symm, below_drewN _ hal'.out⟩
            · have hR := Lib.hid (y3'.out (by omega) (fun h => e4 h.2))
              have d3 : (seq == rl) = true := by rw [e3]; simp
              clear e3
              go_wp2
              go_ret2
              exact ⟨hR.out.symm, hal'.out⟩
          · have hR := Lib.hid (y3'.out (by omega) (fun h => e3 h.1))
            have d3 : (seq == rl) = false := by simpa using e3
            go_wp2
            go_ret2
            exact ⟨hR.out.symm, hal'.out⟩
      · have d1 : (rid != id) = true := by simpa using e1
        have hnx := Lib.hid (take_more hr'.out hall'.out e1)
        clear e1
        go_wp2
        go_roundw
        case rel => exact ⟨i + 1, by go_num, by omega, hal'.out, hnx.out⟩
        case measure => simp [RowKit.intOf]; omega
    · have hR := Lib.hid (hno'.out (by have := hall'.out; rw [List.take_of_length_le (by rw [hn'.out]; omega)] at this; exact this))
      go_wp2
      go_ret2
      exact ⟨hR.out.symm, hbw⟩
end Go.Proofs.Ytnmcgmfpalgpnaa.Se
