/-
  THE PROGRAM's Ask, its place, the closures of place, Done and Open, at type string.
-/
import Derived.Test.YtnmcgmfpalgpnaaSesFnS
set_option linter.unusedVariables false
namespace Go.Proofs.Ytnmcgmfpalgpnaa.Se
open Go.Lib Go.RowKit

abbrev fBS (p : Nat) : Array Value := #[.pointer (some ⟨p, 0, none⟩)]
set_option maxHeartbeats 2000000 in
set_option maxRecDepth 100000 in
theorem placeFnS (id : Int) (p : Nat) (w : World) (hlt : p < w.heap.size) (hc : w.cell? ⟨p, 0, none⟩ = some (.int .i64 id)) : PureS 41 #[.pointer (some ⟨p, 0, none⟩)] (fun r => r.id == id) w := by
  intro W r hb
  obtain ⟨rid, rl, ru, rx⟩ := r
  have hal : Below w.heap.size w (W.alloc (.cells #[.int .i64 rid, .int .i64 rl, .int .i64 ru, .string rx] 42)) := hb.alloc hb.size _
  have hcA := (hal.cell (p := ⟨p, 0, none⟩) hlt).trans hc
  have hal' := Lib.hid hal
  clear hal hb hc
  show Calls Try.prog 41 #[.agg #[.int .i64 rid, .int .i64 rl, .int .i64 ru, .string rx], .pointer (some ⟨p, 0, none⟩)] W _
  go_enter Try.func41, Try.ntmps41
  go_wp2
  go_ret
  exact ⟨rfl, hal'.out⟩
set_option maxHeartbeats 2000000 in
set_option maxRecDepth 100000 in
theorem laterFnS (now : Int) (p : Nat) (w : World) (hlt : p < w.heap.size) (hc : w.cell? ⟨p, 0, none⟩ = some (.int .i64 now)) : PureS 26 #[.pointer (some ⟨p, 0, none⟩)] (fun r => decide (now < r.used)) w := by
  intro W r hb
  obtain ⟨rid, rl, ru, rx⟩ := r
  have hal : Below w.heap.size w (W.alloc (.cells #[.int .i64 rid, .int .i64 rl, .int .i64 ru, .string rx] 42)) := hb.alloc hb.size _
  have hcA := (hal.cell (p := ⟨p, 0, none⟩) hlt).trans hc
  have hal' := Lib.hid hal
  clear hal hb hc
  show Calls Try.prog 26 #[.agg #[.int .i64 rid, .int .i64 rl, .int .i64 ru, .string rx], .pointer (some ⟨p, 0, none⟩)] W _
  go_enter Try.func26, Try.ntmps26
  go_wp2
  go_ret
  exact ⟨rfl, hal'.out⟩
set_option maxHeartbeats 2000000 in
set_option maxRecDepth 100000 in
theorem lateFnS (now : Int) (p : Nat) (w : World) (hlt : p < w.heap.size) (hc : w.cell? ⟨p, 0, none⟩ = some (.int .i64 now)) : PureS 22 #[.pointer (some ⟨p, 0, none⟩)] (fun r => decide (now ≤ r.used) || decide (now ≤ r.id)) w := by
  intro W r hb
  obtain ⟨rid, rl, ru, rx⟩ := r
  have hal : Below w.heap.size w (W.alloc (.cells #[.int .i64 rid, .int .i64 rl, .int .i64 ru, .string rx] 42)) := hb.alloc hb.size _
  have hcA := (hal.cell (p := ⟨p, 0, none⟩) hlt).trans hc
  have hal' := Lib.hid hal
  have hor : (decide (now ≤ ru) || decide (now ≤ rid)) = (decide (now ≤ rid) || decide (now ≤ ru)) := Bool.or_comm _ _
  show Calls _ _ _ _ fun e w' => e = .returned (.bool (decide (now ≤ ru) || decide (now ≤ rid))) ∧ _
  rw [hor]
  clear hal hb hc hor
  cases h1 : decide (now ≤ rid)
  all_goals
    show Calls Try.prog 22 #[.agg #[.int .i64 rid, .int .i64 rl, .int .i64 ru, .string rx], .pointer (some ⟨p, 0, none⟩)] W _
    go_enter Try.func22, Try.ntmps22
    go_wp2
    go_ret
    exact ⟨rfl, hal'.out⟩
set_option maxHeartbeats 4000000 in
set_option maxRecDepth 100000 in
theorem placeS (b : Nat) (v : Value) (t : Tb ByteArray) (id : Int) (w : World) (hbl : w.heap[b]? = some (.cells #[v] 26 (0, 0))) (hv : RsAt eS w v t) (hl : t.length ≤ 1099511627776) :
    Calls Try.prog 25 #[.pointer (some ⟨b, 0, none⟩), .int .i64 id] w fun e w' =>
      ((e = .returned (.int .i64 (-1)) ∧ ∀ r ∈ t, r.id ≠ id) ∨ ∃ (i : Nat) (r : Ro ByteArray), e = .returned (.int .i64 (i : Int)) ∧ t[i]? = some r ∧ r.id = id ∧ ∀ y ∈ t.take i, y.id ≠ id) ∧ Below w.heap.size w w' := by
  have hal : Below w.heap.size w (w.alloc (.cells #[.int .i64 id] 3)) := (Below.refl _ _).alloc (Nat.le_refl _) _
  have hb2 : (w.alloc (.cells #[.int .i64 id] 3)).heap[b]? = some (.cells #[v] 26 (0, 0)) := (hal.block b (Array.getElem?_eq_some_iff.1 hbl).1).trans hbl
  have hcell : (w.alloc (.cells #[.int .i64 id] 3)).cell? ⟨b, 0, none⟩ = some v := by rw [Lib.cell_of_heap hb2]; rfl
  have cI := indexPureS 41 #[.pointer (some ⟨w.heap.size, 0, none⟩)] (fun r => r.id == id) t v _ (fun _ _ => rfl) (hv.kept hal) (placeFnS id w.heap.size _ (by simp) (by rw [Lib.cell_of_heap (heap_alloc_new w _)]; rfl)) hl
  have hal' := Lib.hid hal
  have hmf : ∀ (fn : Fn) (first cap : Array Value) (w : World), (Instr.makeFunc fn first cap).run Try.prog w = .ok (.func fn first cap) w := fun _ _ _ _ => rfl
  obtain ⟨ao, n, c, rfl⟩ : ∃ ao n c, v = .slice ao n c := by
    obtain ⟨A, b, off, c, e, _⟩ := hv
    exact ⟨_, _, _, e⟩
  clear hal hb2 hbl hv
  go_enter Try.func25, Try.ntmps25
  go_wp2_with fail
  go_at_call 35
  refine cI.mono ?_
  rintro e w1 ⟨⟨rfl, h1⟩ | ⟨i, r, rfl, h1, h2, h3⟩, hb1⟩
  · have h1' := Lib.hid h1
    have hb1' := Lib.hid (below_then hal'.out hb1)
    clear h1 hb1 cI
    go_wp2
    go_ret
    exact ⟨.inl ⟨rfl, fun r hr => by simpa using h1'.out r hr⟩, hb1'.out⟩
  · have h1' := Lib.hid (And.intro h1 (And.intro h2 h3))
    have hb1' := Lib.hid (below_then hal'.out hb1)
    clear h1 h2 h3 hb1 cI
    go_wp2
    go_ret
    obtain ⟨k1, k2, k3⟩ := h1'.out
    exact ⟨.inr ⟨i, r, rfl, k1, by simpa using k2, fun y hy => by simpa using k3 y hy⟩, hb1'.out⟩
set_option maxHeartbeats 4000000 in
set_option maxRecDepth 100000 in
theorem askS : AskC eS nS 26 42 10 := by
  intro B b v t id seq w hT hB ht
  have hno : (∀ r ∈ t, r.id ≠ id) → askE eS nS t id seq = .returned (.tuple #[.int .i64 0, .string ⟨#[]⟩]) := fun h => by
    unfold askE askT; rw [row_none h]; rfl
  have hyes : ∀ (i : Nat) (r : Ro ByteArray), t[i]? = some r → (∀ y ∈ t.take i, y.id ≠ id) → r.id = id →
      (r.last < seq → askE eS nS t id seq = .returned (.tuple #[.int .i64 1, .string ⟨#[]⟩])) ∧ (¬ r.last < seq → seq = r.last → 1 ≤ seq → askE eS nS t id seq = .returned (.tuple #[.int .i64 2, .string r.x])) ∧
      (¬ r.last < seq → ¬ (seq = r.last ∧ 1 ≤ seq) → askE eS nS t id seq = .returned (.tuple #[.int .i64 3, .string ⟨#[]⟩])) := fun i r hi h hr => by
    unfold askE askT
    rw [row_some hi h hr]
    refine ⟨fun h1 => ?_, fun h1 h2 h3 => ?_, fun h1 h2 => ?_⟩
    · simp only; rw [if_pos h1]; rfl
    · simp only; rw [if_neg h1, if_pos ⟨h2, h3⟩]; rfl
    · simp only; rw [if_neg h1, if_neg h2]; rfl
  have cP := placeS b v t id w hT.blk hT.own.at (by omega)
  generalize askE eS nS t id seq = R at hno hyes ⊢
  have hblt := hT.lt
  have hbl := hT.blk
  obtain ⟨A, g, off, c, rfl, h1, h2, h3, h4⟩ := hT.own.at
  obtain ⟨n, hn⟩ : ∃ n, t.length = n := ⟨_, rfl⟩
  rw [hn] at ht h1 h3 hbl
  have hcell : ∀ W, Below w.heap.size w W → W.cell? ⟨b, 0, none⟩ = some (.slice A n c) := fun W hW => by
    rw [Lib.cell_of_heap ((hW.block b hblt).trans hbl)]; rfl
  have hn' := Lib.hid hn
  have hno' := Lib.hid hno
  have hyes' := Lib.hid hyes
  have h3' := Lib.hid h3
  have h4' := Lib.hid h4
  have hcell' := Lib.hid hcell
  unfold maxLen at h2
  clear hno hyes hn h3 h4 hT hbl hcell
  go_enter Try.func10, Try.ntmps10
  go_wp2_with fail
  go_at_call 25
  refine cP.mono ?_
  rintro e w1 ⟨⟨rfl, k1⟩ | ⟨i, r, rfl, k1, k2, k3⟩, hb1⟩
  · have hR := hno'.out k1
    have hb1' := Lib.hid hb1
    clear k1 cP hb1
    subst hR
    go_wp2
    go_ret2
    exact ⟨rfl, hb1'.out⟩
  · have hlt : i < n := by rw [← hn'.out]; exact (List.getElem?_eq_some_iff.1 k1).1
    obtain ⟨e1, e2, e3⟩ := hyes'.out i r k1 k3 k2
    obtain ⟨rfl, hg⟩ := h3'.out (by omega)
    obtain ⟨c0, c1, c2, c3⟩ := (h4'.out i r k1).kept eS hg hb1
    have hcw := hcell'.out w1 hb1
    have hb1' := Lib.hid hb1
    have e1' := Lib.hid e1
    have e2' := Lib.hid e2
    have e3' := Lib.hid e3
    obtain ⟨rid, rl, ru, rx⟩ := r
    simp only at c0 c1 c2 c3 e1' e2' e3'
    have hi : decide ((i : Int) < 0) = false := by simp
    clear k1 k2 k3 cP hb1 e1 e2 e3
    by_cases d1 : rl < seq
    · have hR := e1'.out d1
      subst hR
      have hd : decide (rl < seq) = true := by simpa using d1
      go_wp2
      go_ret2
      exact ⟨rfl, hb1'.out⟩
    · have hd : decide (rl < seq) = false := by simpa using d1
      by_cases d2 : seq = rl
      · by_cases d3 : 1 ≤ seq
        · have hR := e2'.out (by omega) d2 d3
          have hd2 : (seq == rl) = true := by simpa using d2
          have hd3 : decide (0 < seq) = true := by simp; omega
          subst hR
          clear d2
          go_wp2
          go_quiet (fail)
          go_wp2
          go_ret2
          exact ⟨rfl, below_drewN _ hb1'.out⟩
        · have hR := e3'.out (by omega) (fun h => d3 h.2)
          have hd2 : (seq == rl) = true := by simpa using d2
          have hd3 : decide (0 < seq) = false := by simp; omega
          subst hR
          clear d2
          go_wp2
          go_ret2
          exact ⟨rfl, hb1'.out⟩
      · have hR := e3'.out (by omega) (fun h => d2 h.1)
        have hd2 : (seq == rl) = false := by simpa using d2
        subst hR
        clear d2
        go_wp2
        go_ret2
        exact ⟨rfl, hb1'.out⟩
end Go.Proofs.Ytnmcgmfpalgpnaa.Se
