/-
  THE PROGRAM's Done AT TYPE int.
-/
import Derived.Test.YtnmcgmfpalgpnaaSesSetI
import Derived.Test.YtnmcgmfpalgpnaaSesRefDone
import Derived.Deep.RegionHeld3
import Derived.Test.YtnmcgmfpalgpnaaSesDoneS
set_option linter.unusedVariables false
namespace Go.Proofs.Ytnmcgmfpalgpnaa.Se
open Go.Lib Go.RowKit

set_option maxHeartbeats 8000000 in
set_option maxRecDepth 100000 in
theorem doneI : DoneC eI 0 50 59 20 := by
  intro B b v t id seq now x w hT hB ht hnd
  have hno : ((askT 0 t id seq).1 ≠ 1 ∨ ∃ r ∈ t, now < r.used) → ∀ w', Below w.heap.size w w' → Ending.returned (.bool false) = .returned (.bool (doneT 0 t id seq now x).2) ∧ After eI 50 59 B b v (doneT 0 t id seq now x).1 w w' := fun h w' hw => by
    rw [done_no 0 x h]
    exact ⟨rfl, After.same hT hw⟩
  have hyes : (askT 0 t id seq).1 = 1 → (∀ r ∈ t, ¬ now < r.used) → ∀ (i : Nat) (r : Ro Int), t[i]? = some r → r.id = id → ∀ W w', Below w.heap.size w W → Tab eI 50 59 B b v (t.set i ⟨id, seq, now, x⟩) w' ∧ Else b v W w' →
      Ending.returned (.bool true) = .returned (.bool (doneT 0 t id seq now x).2) ∧ After eI 50 59 B b v (doneT 0 t id seq now x).1 w w' := fun h1 h2 i r hr hi W w' hW hw => by
    rw [done_yes 0 x h1 h2, done_set hnd hr hi]
    exact ⟨rfl, v, hw.1, fun k hk => .inl hk, (Else.of_below hW).trans hw.2⟩
  have hrow : (askT 0 t id seq).1 = 1 → ∃ r ∈ t, r.id = id := fun h => by
    apply Classical.byContradiction
    intro hn
    have : rowOf t id = none := row_none fun r hr e => hn ⟨r, hr, e⟩
    unfold askT at h
    rw [this] at h
    simp at h
  have hA := Lib.hid (askI)
  generalize doneT 0 t id seq now x = R at hno hyes ⊢
  have hblt := hT.lt
  have hmf : ∀ (fn : Fn) (first cap : Array Value) (w : World), (Instr.makeFunc fn first cap).run Try.prog w = .ok (.func fn first cap) w := fun _ _ _ _ => rfl
  have hbA : Below w.heap.size w (w.alloc (.cells #[.int .i64 now] 3)) := (Below.refl _ _).alloc (Nat.le_refl _) _
  have cA := askI B b v t id seq _ (hT.kept hbA) (by simp; omega) ht
  unfold askE at cA
  have hlk : ∀ W, Below (w.heap.size + 1) (w.alloc (.cells #[.int .i64 now] 3)) W → Below w.heap.size w W ∧ Tab eI 50 59 B b v t W ∧ W.cell? ⟨w.heap.size, 0, none⟩ = some (.int .i64 now) := fun W hW => by
    have hb : Below w.heap.size w W := hbA.trans (hW.mono (Nat.le_succ _))
    refine ⟨hb, hT.kept hb, ?_⟩
    rw [hW.cell (p := ⟨w.heap.size, 0, none⟩) (Nat.lt_succ_self _), Lib.cell_of_heap (heap_alloc_new w _)]; rfl
  have hz1 : (w.alloc (.cells #[.int .i64 now] 3)).heap.size = w.heap.size + 1 := by simp
  rw [hz1] at cA
  generalize askT 0 t id seq = a at cA hno hyes hrow
  obtain ⟨a, y⟩ := a
  simp only at cA hno hyes hrow
  have hno' := Lib.hid hno
  have hyes' := Lib.hid hyes
  have hrow' := Lib.hid hrow
  have hlk' := Lib.hid hlk
  have hT' := Lib.hid hT
  obtain ⟨A, c, hve⟩ := ownsRow_form hT.own
  have hve' := Lib.hid hve
  clear hno hyes hrow hlk hT hbA hA hve
  go_enter Try.func20, Try.ntmps20
  go_wp2_with fail
  go_at_call 19
  refine cA.mono ?_
  rintro e w1 ⟨rfl, hb1⟩
  obtain ⟨hB1, hT1, hc1⟩ := hlk'.out w1 hb1
  have hb1' := Lib.hid hb1
  have hB1' := Lib.hid hB1
  clear cA hb1
  by_cases ha : a = 1
  · subst ha
    have d1 : (((1 : Nat) : Int) != 1) = false := by decide
    have hcell : w1.cell? ⟨b, 0, none⟩ = some v := by rw [Lib.cell_of_heap hT1.blk]; rfl
    have cC := containsPureI 33 #[.pointer (some ⟨w.heap.size, 0, none⟩)] (fun r => decide (now < r.used)) t v w1 (fun _ _ => rfl) hT1.own.at (laterFnI now w.heap.size w1 (by have := hb1'.out.size; simp at this; omega) hc1) (by omega)
    obtain ⟨q, hq⟩ : ∃ q, (t.any fun r => decide (now < r.used)) = q := ⟨_, rfl⟩
    rw [hq] at cC
    have hT1' := Lib.hid hT1
    clear hT1 hB1
    rw [hve'.out] at hcell cC
    go_wp2_with fail
    go_at_call 30
    refine cC.mono ?_
    rintro e w2 ⟨rfl, hb2⟩
    have hb2' := Lib.hid (hb1'.out.trans (hb2.mono (by have := hb1'.out.size; simp at this; omega)))
    clear cC hb2 hcell hc1
    cases hqv : q
    · rw [hqv] at hq
      have hall : ∀ r ∈ t, ¬ now < r.used := fun r hr h => by
        have := List.any_eq_false.1 hq r hr
        simp at this
        omega
      obtain ⟨r, hrm, hid⟩ := hrow'.out trivial
      obtain ⟨i, hil, hri⟩ := List.getElem_of_mem hrm
      have hr : t[i]? = some r := by rw [List.getElem?_eq_getElem hil, hri]
      obtain ⟨n, hn⟩ : ∃ n, t.length = n := ⟨_, rfl⟩
      have hv := hve'.out
      rw [hn] at hv
      obtain ⟨g, rfl⟩ : ∃ g, A = some ⟨g, 0, none⟩ := by
        rcases hT'.out.own.2 with ⟨e1, e2⟩ | ⟨g', cap, cur, e1, _⟩
        · omega
        · rw [hv] at e1
          injection e1 with e1
          exact ⟨g', e1⟩
      subst hv
      have hdrew : ∀ W, Below (w.heap.size + 1) (w.alloc (.cells #[.int .i64 now] 3)) W → Below (w.heap.size + 1) (w.alloc (.cells #[.int .i64 now] 3)) W.drew := fun W h => h.trans (Below.drew (Below.refl _ _))
      have cP : Calls Try.prog 32 #[.pointer (some ⟨b, 0, none⟩), .int .i64 id] w2.drew fun e w' => e = .returned (.int .i64 (i : Int)) ∧ Below w2.heap.size w2.drew w' := by
        have hTd := (hlk'.out _ (hdrew _ hb2'.out)).2.1
        refine (placeI b _ t id w2.drew hTd.blk hTd.own.at (by omega)).mono ?_
        rintro e w' ⟨⟨_, k1⟩ | ⟨j, y, rfl, k1, k2, _⟩, k3⟩
        · exact absurd hid (k1 r hrm)
        · refine ⟨?_, k3⟩
          have hlj := (List.getElem?_eq_some_iff.1 k1).1
          have h1 : (t.map Ro.id)[i]? = (t.map Ro.id)[j]? := by rw [List.getElem?_map, List.getElem?_map, hr, k1]; show some r.id = some y.id; rw [hid, k2]
          rw [(List.getElem?_inj (by rw [List.length_map]; exact hil) hnd).1 h1]
      have hkeep : ∀ W, Below (w.heap.size + 1) (w.alloc (.cells #[.int .i64 now] 3)) W → Below (w.heap.size + 1) (w.alloc (.cells #[.int .i64 now] 3)) W ∧ W.cell? ⟨b, 0, none⟩ = some (.slice (some ⟨g, 0, none⟩) n c) ∧ W.cell? ⟨w.heap.size, 0, none⟩ = some (.int .i64 now) ∧
          W.cell? ⟨g, i * 4, none⟩ = some (.int .i64 r.id) ∧ W.cell? ⟨g, i * 4 + 1, none⟩ = some (.int .i64 r.last) ∧ W.cell? ⟨g, i * 4 + 2, none⟩ = some (.int .i64 r.used) ∧ W.cell? ⟨g, i * 4 + 3, none⟩ = some (.int .i64 r.x) ∧
          W.frozen? ⟨g, i * 4, none⟩ = false ∧ W.frozen? ⟨g, i * 4 + 1, none⟩ = false ∧ W.frozen? ⟨g, i * 4 + 2, none⟩ = false ∧ W.frozen? ⟨g, i * 4 + 3, none⟩ = false := fun W hW => by
        obtain ⟨_, hTW, hcW⟩ := hlk'.out W hW
        obtain ⟨⟨k0, k1, k2, k3⟩, hfz⟩ := hTW.cells hn hr
        exact ⟨hW, by rw [Lib.cell_of_heap hTW.blk]; rfl, hcW, k0, k1, k2, k3, hfz _, hfz _, hfz _, hfz _⟩
      have hfin : ∀ W, Below (w.heap.size + 1) (w.alloc (.cells #[.int .i64 now] 3)) W → _ := fun W hW => hyes'.out trivial (fun r hr => by have := hall r hr; omega) i r hr hid W _ (hlk'.out W hW).1 ((hlk'.out W hW).2.1.stored4 hn hr ⟨id, seq, now, x⟩)
      have hgb : g ≠ b := fun e => hT'.out.apart (by rw [e]; rfl)
      have hgp : g ≠ w.heap.size := fun e => by have := (hT'.out.ownLt g rfl).2; omega
      have hbp : b ≠ w.heap.size := fun e => by omega
      have hSt : ∀ W, Below (w.heap.size + 1) (w.alloc (.cells #[.int .i64 now] 3)) W → ∀ u0 u1 u2 u3 : Value, ((((W.setCell ⟨g, i * 4, none⟩ u0).setCell ⟨g, i * 4 + 1, none⟩ u1).setCell ⟨g, i * 4 + 2, none⟩ u2).setCell ⟨g, i * 4 + 3, none⟩ u3).cell? ⟨b, 0, none⟩ = some (.slice (some ⟨g, 0, none⟩) n c) ∧ ((((W.setCell ⟨g, i * 4, none⟩ u0).setCell ⟨g, i * 4 + 1, none⟩ u1).setCell ⟨g, i * 4 + 2, none⟩ u2).setCell ⟨g, i * 4 + 3, none⟩ u3).cell? ⟨w.heap.size, 0, none⟩ = some (.int .i64 now) := fun W hW u0 u1 u2 u3 => by
        obtain ⟨_, k1, k2, _⟩ := hkeep W hW
        have hc : ∀ (W : World) (x j : Nat) (u : Value), g ≠ x → (W.setCell ⟨g, j, none⟩ u).cell? ⟨x, 0, none⟩ = W.cell? ⟨x, 0, none⟩ := fun W x j u h => by
          unfold World.cell?
          rw [Below.heap_setCell W ⟨g, j, none⟩ u x (fun e => h e.symm)]
        rw [hc _ _ _ _ hgb, hc _ _ _ _ hgb, hc _ _ _ _ hgb, hc _ _ _ _ hgb, hc _ _ _ _ hgp, hc _ _ _ _ hgp, hc _ _ _ _ hgp, hc _ _ _ _ hgp]
        exact ⟨k1, k2⟩
      obtain ⟨rid, rl, ru, rx⟩ := r
      simp only at hkeep hfin
      have hkeep' := Lib.hid hkeep
      have hfin' := Lib.hid hfin
      have hdrew' := Lib.hid hdrew
      have hSt' := Lib.hid hSt
      obtain ⟨_, q1, q2, q3, q4, q5, q6, q7, q8, q9, q10⟩ := hkeep w2 hb2'.out
      have p1 : (0 : Int) ≤ (i : Int) := by omega
      have p2 : (i : Int) < (n : Int) := by omega
      clear hkeep hfin hdrew hqv hall hid hr hri hrm hq hSt hgb hgp hbp
      go_wp2_with fail
      go_region_held3 (fun W => W.cell? ⟨b, 0, none⟩ = some (.slice (some ⟨g, 0, none⟩) n c) ∧ W.cell? ⟨w.heap.size, 0, none⟩ = some (.int .i64 now))
        (first | exact ⟨q1, q2⟩ | exact ⟨((hkeep'.out _ (hdrew'.out _ hb2'.out)).2).1, ((hkeep'.out _ (hdrew'.out _ hb2'.out)).2).2.1⟩ | exact ⟨z1, z2⟩ | exact hSt'.out _ hbx2 _ _ _ _)
        (first | (go_at_call 32; refine cP.mono ?_; rintro e wx ⟨rfl, hbx⟩; have hbx2 : Below (w.heap.size + 1) (w.alloc (.cells #[.int .i64 now] 3)) wx := (hdrew'.out _ hb2'.out).trans (hbx.mono (by have := hb2'.out.size; simp at this; omega)); obtain ⟨_, z1, z2, z3, z4, z5, z6, z7, z8, z9, z10⟩ := hkeep'.out wx hbx2))
      go_wp2
      go_ret
      exact hfin'.out _ hbx2
    · rw [hqv] at hq
      obtain ⟨r, hr, hr2⟩ := List.any_eq_true.1 hq
      have hR := Lib.hid (hno'.out (.inr ⟨r, hr, by simpa using hr2⟩) w2 (hlk'.out w2 hb2'.out).1)
      clear hq hqv hr hr2
      go_wp2
      go_ret
      exact hR.out
  · have hR := Lib.hid (hno'.out (.inl ha) w1 hB1'.out)
    have d1 : ((a : Int) != 1) = true := by simp; omega
    clear hB1 hT1
    go_wp2
    go_ret
    exact hR.out
end Go.Proofs.Ytnmcgmfpalgpnaa.Se
