/-
  A PARAMETER OF TYPE []calepinlaw13.Act: what its reading gives.
-/
import Derived.Test.YtnmcgmfpalgpnaaKindInts
import Derived.Deep.Slices
import Derived.Deep.Fields
import Derived.Lib.SmallJoins
import Derived.Carry
set_option linter.unusedVariables false
namespace Go.Proofs.Ytnmcgmfpalgpnaa.La
open Go.Lib Go.RowKit Go.Shelf Go.ChangeShapes Go.WideShapes Go.ChangeAt Go.Deep

structure Ac where
  kind : Int
  id : Int
  seq : Int
  now : Int
  x : ByteArray
/-- rows of acts, wherever they read -/
def ActsAt (w : World) (v : Value) (t : List Ac) : Prop :=
  ∃ (A : Option Addr) (b off c : Nat), v = .slice A t.length c ∧ t.length ≤ c ∧ c ≤ maxLen ∧ (0 < t.length → A = some ⟨b, off, none⟩ ∧ b < w.heap.size) ∧
    ∀ (j : Nat) (r : Ac), t[j]? = some r → w.cell? ⟨b, off + j * 5, none⟩ = some (.int .i64 r.kind) ∧ w.cell? ⟨b, off + j * 5 + 1, none⟩ = some (.int .i64 r.id) ∧ w.cell? ⟨b, off + j * 5 + 2, none⟩ = some (.int .i64 r.seq) ∧ w.cell? ⟨b, off + j * 5 + 3, none⟩ = some (.int .i64 r.now) ∧ w.cell? ⟨b, off + j * 5 + 4, none⟩ = some (.string r.x)
theorem listed {α : Type} (P : Nat → α → Prop) : ∀ n, (∀ i, i < n → ∃ x, P i x) → ∃ xs : List α, xs.length = n ∧ ∀ (i : Nat) (x : α), xs[i]? = some x → P i x
  | 0, _ => ⟨[], rfl, fun i x h => by simp at h⟩
  | n + 1, h => by
    obtain ⟨xs, hl, hx⟩ := listed P n (fun i hi => h i (by omega))
    obtain ⟨x, hxn⟩ := h n (by omega)
    refine ⟨xs ++ [x], by simp [hl], fun i y hy => ?_⟩
    by_cases hi : i < n
    · rw [List.getElem?_append_left (by omega)] at hy
      exact hx i y hy
    · rw [List.getElem?_append_right (by omega)] at hy
      have h0 : i - xs.length = 0 := by have := (List.getElem?_eq_some_iff.1 hy).1; simp at this; omega
      rw [h0] at hy
      simp at hy
      subst hy
      rw [show i = n by omega]
      exact hxn
theorem add_spot (a : Addr) (h : (a.add 0).spot = none) : a = ⟨a.block, a.off, none⟩ := by
  obtain ⟨b, off, spot⟩ := a
  unfold Addr.add at h
  split at h <;> simp_all
theorem add_is (b off i : Nat) : (⟨b, off, none⟩ : Addr).add i = ⟨b, off + i, none⟩ := by
  unfold Addr.add
  split
  · rename_i h; subst h; rfl
  · rfl
variable {H : Type} {enc : TypeId × Value → H}
set_option maxRecDepth 100000 in
theorem acts_open {base : Nat} {W : World} {v : Value} {d : DataW H} {ps : List MemPlace} (hval : Value.okWide Try.prog W .any base 22 v) (h : DataW.Trod enc Try.prog W 0 (fun _ => true) true 22 v d ps) :
    ∃ qs, ActsAt W v qs := by
  obtain ⟨a0, len0, cap0, rfl⟩ := okWide_slice Try.underlying22 hval
  obtain ⟨fuel, hf⟩ := h
  have hce : Try.prog.cellsOf 31 = 5 := by kernel_rfl
  have h1s : Try.prog.cellsOf 9 = 1 := by kernel_rfl
  have h1i : Try.prog.cellsOf 3 = 1 := by kernel_rfl
  rcases open_slice Try.underlying22 hf with ⟨hcs, hx⟩ | ⟨a, len, cap, m, n, D, Pl, hcs, _, hl, hm, hmm, hx, hi⟩
  · simp [Value.cells] at hcs
    obtain ⟨rfl, rfl, rfl⟩ := hcs
    exact ⟨[], none, 0, 0, 0, rfl, by simp, Nat.zero_le _, fun h => absurd h (by simp), fun j p h => by simp at h⟩
  · simp [Value.cells] at hcs
    obtain ⟨rfl, rfl, rfl⟩ := hcs
    simp only [if_true] at hmm
    rw [hce] at hi
    obtain ⟨qs, hqs, hp⟩ := listed (fun i (p : Ac) => W.cell? (a.add (i * 5)) = some (.int .i64 p.kind) ∧ W.cell? ((a.add (i * 5)).add 1) = some (.int .i64 p.id) ∧ W.cell? ((a.add (i * 5)).add 2) = some (.int .i64 p.seq) ∧ W.cell? ((a.add (i * 5)).add 3) = some (.int .i64 p.now) ∧ W.cell? ((a.add (i * 5)).add 4) = some (.string p.x)) len0 (fun i hil => by
      obtain ⟨cs', hc, ht⟩ := hi i (by omega)
      obtain ⟨_, hcl, hat⟩ := World.cells?_some hc
      obtain ⟨xs, n', _, _, _, hlen, hft⟩ := DataW.trod_struct Try.underlying31 ht
      match cs', hcl with
      | [c0, c1, c2, c3, c4], _ =>
        match xs, hlen with
        | [y0, y1, y2, y3, y4], _ =>
          have e0 := hat 0 (by omega)
          have e1 := hat 1 (by omega)
          have e2 := hat 2 (by omega)
          have e3 := hat 3 (by omega)
          have e4 := hat 4 (by omega)
          have ht0 : DataW.trod enc Try.prog W 0 (fun _ => true) true n' 3 (([c0, c1, c2, c3, c4].drop 0).take (Try.prog.cellsOf 3)) = some y0 := hft 0 _ rfl
          have ht1 : DataW.trod enc Try.prog W 0 (fun _ => true) true n' 3 (([c0, c1, c2, c3, c4].drop 1).take (Try.prog.cellsOf 3)) = some y1 := hft 1 _ rfl
          have ht2 : DataW.trod enc Try.prog W 0 (fun _ => true) true n' 3 (([c0, c1, c2, c3, c4].drop 2).take (Try.prog.cellsOf 3)) = some y2 := hft 2 _ rfl
          have ht3 : DataW.trod enc Try.prog W 0 (fun _ => true) true n' 3 (([c0, c1, c2, c3, c4].drop 3).take (Try.prog.cellsOf 3)) = some y3 := hft 3 _ rfl
          have ht4 : DataW.trod enc Try.prog W 0 (fun _ => true) true n' 9 (([c0, c1, c2, c3, c4].drop 4).take (Try.prog.cellsOf 9)) = some y4 := hft 4 _ rfl
          simp only [h1s, h1i, List.drop_zero, List.take_succ_cons, List.take_zero, List.drop_succ_cons] at ht0 ht1 ht2 ht3 ht4
          obtain ⟨n0, hs0, _, _⟩ := DataW.trod_int Try.underlying3 ht0
          obtain ⟨n1, hs1, _, _⟩ := DataW.trod_int Try.underlying3 ht1
          obtain ⟨n2, hs2, _, _⟩ := DataW.trod_int Try.underlying3 ht2
          obtain ⟨n3, hs3, _, _⟩ := DataW.trod_int Try.underlying3 ht3
          obtain ⟨s4, hs4, _, _⟩ := DataW.trod_string Try.underlying9 ht4
          simp at hs0 hs1 hs2 hs3 hs4
          subst hs0; subst hs1; subst hs2; subst hs3; subst hs4
          have ez : (a.add (i * 5)).add 0 = a.add (i * 5) := by unfold Addr.add; simp
          rw [ez] at e0
          exact ⟨⟨n0, n1, n2, n3, s4⟩, by simpa using e0, by simpa using e1, by simpa using e2, by simpa using e3, by simpa using e4⟩)
    have key : 0 < qs.length → a = ⟨a.block, a.off, none⟩ ∧ a.block < W.heap.size := fun h0 => by
      have h1 : qs[0]? = some (qs[0]'h0) := List.getElem?_eq_getElem _
      have h2 := (hp 0 _ h1).1
      rw [Nat.zero_mul] at h2
      have h3 := add_spot a (spot_none h2)
      have h4 := World.block_lt_of_cell? W (a.add 0) h2
      rw [h3, add_is] at h4
      exact ⟨h3, h4⟩
    refine ⟨qs, some a, a.block, a.off, cap0, by rw [hqs], by omega, hm, fun h0 => ?_, fun j p hj => ?_⟩
    · obtain ⟨h3, h4⟩ := key h0
      exact ⟨by rw [← h3], h4⟩
    · obtain ⟨g0, g1, g2, g3, g4⟩ := hp j p hj
      obtain ⟨h3, _⟩ := key (by have := (List.getElem?_eq_some_iff.1 hj).1; omega)
      rw [h3, add_is] at g0
      rw [h3, add_is, add_is] at g1 g2 g3 g4
      exact ⟨g0, g1, g2, g3, g4⟩
end Go.Proofs.Ytnmcgmfpalgpnaa.La
