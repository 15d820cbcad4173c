/-
  THE PROGRAM's Set.
-/
import Derived.Test.YtnmcgmfpalgpnaaSesSetS
set_option linter.unusedVariables false
namespace Go.Proofs.Ytnmcgmfpalgpnaa.Se
open Go.Lib Go.RowKit

set_option maxHeartbeats 8000000 in
set_option maxRecDepth 100000 in
theorem setS : SetC eS 26 42 15 := by
  intro B b v vl t l w hT hB hl hll
  have hblt := hT.lt
  have hlw : ∀ W, Below w.heap.size w W → RsAt eS W vl l := fun W hW => hl.kept hW
  have hno : ((∃ (i : Nat) (r : Ro ByteArray), l[i]? = some r ∧ ¬ okRo (prev 0 l i) r) ∨ 8 < l.length) → ∀ w', Below w.heap.size w w' → Ending.returned (.bool false) = .returned (.bool (setT t l).2) ∧ After eS 26 42 B b v (setT t l).1 w w' := fun h w' hw => by
    rw [set_no h]
    exact ⟨rfl, After.same hT hw⟩
  have hyes : (∀ (i : Nat) (r : Ro ByteArray), l[i]? = some r → okRo (prev 0 l i) r) → l.length ≤ 8 → ∀ (v' : Value) (w' : World), Below w.heap.size w w' → RsOwn eS 42 w.heap.size v' l w' →
      Ending.returned (.bool true) = .returned (.bool (setT t l).2) ∧ After eS 26 42 B b v (setT t l).1 w (w'.setCell ⟨b, 0, none⟩ v') := fun h1 h2 v' w' hw hn => by
    rw [set_yes h1 h2]
    exact ⟨rfl, After.laid hT hw hn hB⟩
  generalize setT t l = R at hno hyes ⊢
  have hbl := hT.blk
  have hmf : ∀ (fn : Fn) (first cap : Array Value) (w : World), (Instr.makeFunc fn first cap).run Try.prog w = .ok (.func fn first cap) w := fun _ _ _ _ => rfl
  have hbA : Below w.heap.size w (w.alloc (.cells #[.int .i64 0] 3)) := (Below.refl _ _).alloc (Nat.le_refl _) _
  have hpA : (w.alloc (.cells #[.int .i64 0] 3)).heap[w.heap.size]? = some (.cells #[.int .i64 (prev 0 l 0)] 3 (0, 0)) := heap_alloc_new _ _
  obtain ⟨A, g, off, c, rfl, h1, h2, h3, h4⟩ := hl
  have cC := fun (hl8 : l.length ≤ 8) => containsFuncS (fun k W => Below w.heap.size w W ∧ W.heap[w.heap.size]? = some (.cells #[.int .i64 (prev 0 l k)] 3 (0, 0))) 28 #[.pointer (some ⟨w.heap.size, 0, none⟩)] (wrongK l) l A g off l.length c (w.alloc (.cells #[.int .i64 0] 3)) (fun _ _ => rfl) rfl (fun h => (h3 h).1)
    (fun k W hW j r hr => (h4 j r hr).kept eS (h3 (by have := (List.getElem?_eq_some_iff.1 hr).1; omega)).2 hW.1) (fun k W r hr hW => setFnS l k r hr w.heap.size w.heap.size w W hW.1 (Nat.le_refl _) hW.2) (by omega) ⟨hbA, hpA⟩
  have hcl : ∀ W, Below w.heap.size w W → Calls Try.prog 27 #[.slice A l.length c] W fun e w' => (∃ u, e = .returned u ∧ RsOwn eS 42 W.heap.size u l w') ∧ Below W.heap.size W w' := fun W hW => cloneS _ l W (hlw W hW) hll
  obtain ⟨n, hn⟩ : ∃ n, l.length = n := ⟨_, rfl⟩
  rw [hn] at h1 h3 hll hlw hno hyes cC hcl ⊢
  have hn' := Lib.hid hn
  have hno' := Lib.hid hno
  have hyes' := Lib.hid hyes
  have hbl' := Lib.hid hbl
  have hB' := Lib.hid hB
  have hcl' := Lib.hid hcl
  have hbA' := Lib.hid hbA
  have hcells : ∀ W, Below w.heap.size w W → W.cell? ⟨b, 0, none⟩ = some v ∧ W.frozen? ⟨b, 0, none⟩ = false := fun W hW => by
    have := (hW.block b hblt).trans hbl
    exact ⟨by rw [Lib.cell_of_heap this]; rfl, Lib.frozen_of_heap this 0⟩
  have hcells' := Lib.hid hcells
  unfold maxLen at h2
  clear hno hyes hn h3 h4 hbl hT hlw hB hcl hbA hpA hcells
  by_cases h8 : n ≤ 8
  · have cC1 := cC h8
    have d0 : decide (8 < (n : Int)) = false := by simp; omega
    clear cC
    go_enter Try.func15, Try.ntmps15
    go_wp2_with fail
    go_at_call 23
    refine cC1.mono ?_
    rintro e w2 (⟨rfl, k1, hb2, _⟩ | ⟨i, k0, rfl, k1, k2, hb2, _⟩)
    · have hall := Lib.hid (fun (i : Nat) (r : Ro ByteArray) (hr : l[i]? = some r) => wrongK_yes hr (k1 i (by have := (List.getElem?_eq_some_iff.1 hr).1; have := hn'.out; omega)))
      have cL := hcl'.out w2 hb2
      have hb2' := Lib.hid hb2
      clear k1 hb2 cC1
      go_wp2_with fail
      go_at_call 27
      refine cL.mono ?_
      rintro e w3 ⟨⟨u, rfl, hu⟩, hb3⟩
      have hb3' := Lib.hid (below_then hb2'.out hb3)
      have hR := Lib.hid (hyes'.out hall.out h8 u w3 hb3'.out (ownsRow_less hu hb2'.out.size))
      obtain ⟨e1, e2⟩ := hcells'.out w3 hb3'.out
      obtain ⟨ao, c3, rfl⟩ := ownsRow_form hu
      clear hu hb3 cL
      go_wp2
      go_ret
      exact hR.out
    · obtain ⟨r, hr⟩ : ∃ r, l[i]? = some r := ⟨_, List.getElem?_eq_getElem (by have := hn'.out; omega)⟩
      have hR := Lib.hid (hno'.out (.inl ⟨i, r, hr, wrongK_no hr k1⟩) w2 hb2)
      clear k0 k1 k2 hb2 cC1 hr
      go_wp2
      go_ret
      exact hR.out
  · have hR := Lib.hid (hno'.out (.inr (by omega)) _ hbA'.out)
    have d0 : decide (8 < (n : Int)) = true := by simp; omega
    clear cC
    go_enter Try.func15, Try.ntmps15
    go_wp2
    go_ret
    exact hR.out
end Go.Proofs.Ytnmcgmfpalgpnaa.Se
