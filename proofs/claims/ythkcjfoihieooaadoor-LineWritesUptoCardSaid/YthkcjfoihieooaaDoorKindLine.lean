/-
  A PARAMETER OF TYPE api.Line: what its reading gives.
-/
import Derived.Test.YthkcjfoihieooaaDoorLaidV
import Derived.Test.YthkcjfoihieooaaDoorLineMem
import Derived.Test.YthkcjfoihieooaaDoorLineWrParam
import Derived.ChangeSame
import Derived.ChangeSlices
import Derived.Deep.Slices
import Derived.Deep.Fields
import Derived.Lib.SmallJoins
import Derived.Carry
set_option linter.unusedVariables false
namespace Go.Proofs.YthkcjfoihieooaaDoor.La
open Go.Lib Go.RowKit Go.Shelf Go.ChangeShapes Go.WideShapes Go.ChangeAt Go.Deep Li

def bulkV (vs : List Row) : Nat := (vs.map fun v => v.length + 1).sum
def bulkP (p : PD) : Nat := p.name.length + 1 + bulkV p.vals
def bulkPs (ps : List PD) : Nat := (ps.map bulkP).sum
def bulkL (L : LD) : Nat := L.group.length + L.name.length + L.value.length + bulkPs L.params

theorem listed {α : Type} (P : Nat → α → Prop) : ∀ n, (∀ i, i < n → ∃ x, P i x) → ∃ xs : List α, xs.length = n ∧ ∀ (i : Nat) (x : α), xs[i]? = some x → P i x
  | 0, _ => ⟨[], rfl, fun i x h => by simp at h⟩
  | n + 1, h => by
    obtain ⟨xs, hl, hx⟩ := listed P n (fun i hi => h i (by omega))
    obtain ⟨x, hxn⟩ := h n (by omega)
    refine ⟨xs ++ [x], by simp [hl], fun i y hy => ?_⟩
    by_cases hi : i < n
    · rw [List.getElem?_append_left (by omega)] at hy
      exact hx i y hy
    · rw [List.getElem?_append_right (by omega)] at hy
      have h0 : i - xs.length = 0 := by have := (List.getElem?_eq_some_iff.1 hy).1; simp at this; omega
      rw [h0] at hy
      simp at hy
      subst hy
      rw [show i = n by omega]
      exact hxn
variable {H : Type} {enc : TypeId × Value → H}
theorem bulk_sum {α : Type} (f : α → Nat) : ∀ (xs : List α) (D : Nat → DataW H), (∀ (i : Nat) (x : α), xs[i]? = some x → f x ≤ Rows.uptoBulk (D i)) → (xs.map f).sum ≤ Rows.uptoBulkAll ((List.range xs.length).map D)
  | [], D, _ => by simp
  | x :: xs, D, h => by
    have h0 := h 0 x rfl
    have ih := bulk_sum f xs (fun i => D (i + 1)) (fun i y hy => h (i + 1) y (by simpa using hy))
    rw [List.length_cons, List.range_succ_eq_map, List.map_cons, List.map_cons, List.map_map, List.sum_cons, Rows.uptoBulkAll]
    have e : (D ∘ Nat.succ) = fun i => D (i + 1) := rfl
    rw [e]
    omega
theorem spot_none {W : World} {a : Addr} {v : Value} (h : W.cell? a = some v) : a.spot = none := by
  cases hs : a.spot with
  | none => rfl
  | some x =>
    exfalso
    unfold World.cell? at h
    rw [hs] at h
    split at h <;> simp at h
theorem add_spot (a : Addr) (h : (a.add 0).spot = none) : a = ⟨a.block, a.off, none⟩ := by
  obtain ⟨b, off, spot⟩ := a
  unfold Addr.add at h
  split at h <;> simp_all
theorem add_is (b off i : Nat) : (⟨b, off, none⟩ : Addr).add i = ⟨b, off + i, none⟩ := by
  unfold Addr.add
  split
  · rename_i h; subst h; rfl
  · rfl

set_option maxRecDepth 100000 in
theorem strs_open {W : World} {fuel : Nat} {v : Value} {x : DataW H × List MemPlace} (h : DataW.trod enc Tryd.prog W 0 (fun _ => true) true fuel 38 [v] = some x) : ∃ ls, StrsAt W v ls ∧ bulkV ls ≤ Rows.uptoBulk x.1 := by
  have hce : Tryd.prog.cellsOf 9 = 1 := by kernel_rfl
  rcases open_slice1 Tryd.underlying38 hce h with ⟨hcs, hx⟩ | ⟨a, len, cap, m, n, V, D, Pl, hcs, _, hl, hm, hmm, hx, hi⟩
  · simp at hcs
    subst hcs
    exact ⟨[], ⟨none, 0, 0, 0, rfl, by simp, by unfold maxLen; omega, fun h => absurd h (by simp), fun j l hj => by simp at hj⟩, Nat.zero_le _⟩
  · simp at hcs
    subst hcs
    simp only [if_true] at hmm
    obtain ⟨ls, hls, hp⟩ := listed (fun i (l : Row) => W.cell? (a.add i) = some (sv l) ∧ l.length + 1 ≤ Rows.uptoBulk (D i)) len (fun i hil => by
      obtain ⟨h1, h2⟩ := hi i (by omega)
      obtain ⟨s, hs, hsx, _⟩ := DataW.trod_string Tryd.underlying9 h2
      simp only [Prod.mk.injEq] at hsx
      simp at hs
      refine ⟨s.data.toList, by rw [h1, hs, sv_data], ?_⟩
      rw [hsx.1, bulk_string]
      exact Nat.le_refl _)
    have key : 0 < ls.length → a = ⟨a.block, a.off, none⟩ ∧ a.block < W.heap.size := fun h0 => by
      have h1 : ls[0]? = some (ls[0]'h0) := List.getElem?_eq_getElem _
      have h2 := (hp 0 _ h1).1
      have h3 := add_spot a (spot_none h2)
      have h4 := World.block_lt_of_cell? W (a.add 0) h2
      rw [h3, add_is] at h4
      exact ⟨h3, h4⟩
    refine ⟨ls, ⟨some a, a.block, a.off, cap, by rw [hls], by omega, hm, fun h0 => ?_, fun j l hj => ?_⟩, ?_⟩
    · obtain ⟨h3, h4⟩ := key h0
      exact ⟨by rw [← h3], h4⟩
    · have h2 := (hp j l hj).1
      obtain ⟨h3, _⟩ := key (by have := (List.getElem?_eq_some_iff.1 hj).1; omega)
      rw [h3, add_is] at h2
      exact h2
    · rw [hx, Rows.uptoBulk]
      have := bulk_sum (fun l : Row => l.length + 1) ls D (fun i l hil => (hp i l hil).2)
      rw [hls] at this
      unfold bulkV
      omega
set_option maxRecDepth 100000 in
theorem prms_open {W : World} {fuel : Nat} {v : Value} {x : DataW H × List MemPlace} (h : DataW.trod enc Tryd.prog W 0 (fun _ => true) true fuel 23 [v] = some x) : ∃ ps, PrmsAt W v ps ∧ bulkPs ps ≤ Rows.uptoBulk x.1 := by
  have hce : Tryd.prog.cellsOf 40 = 2 := by kernel_rfl
  have h1s : Tryd.prog.cellsOf 9 = 1 := by kernel_rfl
  have h1v : Tryd.prog.cellsOf 38 = 1 := by kernel_rfl
  rcases open_slice Tryd.underlying23 h with ⟨hcs, hx⟩ | ⟨a, len, cap, m, n, D, Pl, hcs, _, hl, hm, hmm, hx, hi⟩
  · simp at hcs
    subst hcs
    exact ⟨[], ⟨none, 0, 0, 0, rfl, by simp, by unfold maxLen; omega, fun h => absurd h (by simp), fun j l hj => by simp at hj⟩, Nat.zero_le _⟩
  · simp at hcs
    subst hcs
    simp only [if_true] at hmm
    rw [hce] at hi
    obtain ⟨ps, hps, hp⟩ := listed (fun i (p : PD) => W.cell? (a.add (i * 2)) = some (sv p.name) ∧ (∃ u, W.cell? ((a.add (i * 2)).add 1) = some u ∧ StrsAt W u p.vals) ∧ bulkP p ≤ Rows.uptoBulk (D i)) len (fun i hil => by
      obtain ⟨cs', hc, ht⟩ := hi i (by omega)
      obtain ⟨_, hcl, hat⟩ := World.cells?_some hc
      obtain ⟨y0, y1, n', hy, _, ht0, ht1⟩ := trod_struct2 Tryd.underlying40 ht
      match cs', hcl with
      | [c0, c1], _ =>
        have e0 := hat 0 (by omega)
        have e1 := hat 1 (by omega)
        simp only [h1s, h1v, List.drop_zero, List.take_succ_cons, List.take_zero, List.drop_succ_cons] at ht0 ht1
        obtain ⟨s, hs, hsx, _⟩ := DataW.trod_string Tryd.underlying9 ht0
        obtain ⟨ls, hls, hb⟩ := strs_open ht1
        simp at hs
        subst hs
        simp only [Prod.mk.injEq] at hy
        refine ⟨⟨s.data.toList, ls⟩, ?_, ⟨c1, by simpa using e1, hls⟩, ?_⟩
        · rw [sv_data]
          have : (a.add (i * 2)).add 0 = a.add (i * 2) := by unfold Addr.add; simp
          rw [this] at e0
          simpa using e0
        · rw [hy.1, Rows.uptoBulk, Rows.uptoBulkAll, Rows.uptoBulkAll, Rows.uptoBulkAll, hsx]
          dsimp only
          rw [bulk_string]
          unfold bulkP
          dsimp only
          omega)
    have key : 0 < ps.length → a = ⟨a.block, a.off, none⟩ ∧ a.block < W.heap.size := fun h0 => by
      have h1 : ps[0]? = some (ps[0]'h0) := List.getElem?_eq_getElem _
      have h2 := (hp 0 _ h1).1
      rw [Nat.zero_mul] at h2
      have h3 := add_spot a (spot_none h2)
      have h4 := World.block_lt_of_cell? W (a.add 0) h2
      rw [h3, add_is] at h4
      exact ⟨h3, h4⟩
    refine ⟨ps, ⟨some a, a.block, a.off, cap, by rw [hps], by omega, hm, fun h0 => ?_, fun j p hj => ?_⟩, ?_⟩
    · obtain ⟨h3, h4⟩ := key h0
      exact ⟨by rw [← h3], h4⟩
    · obtain ⟨h2, ⟨u, h5, h6⟩, _⟩ := hp j p hj
      obtain ⟨h3, _⟩ := key (by have := (List.getElem?_eq_some_iff.1 hj).1; omega)
      rw [h3, add_is] at h2
      rw [h3, add_is, add_is] at h5
      exact ⟨h2, u, h5, h6⟩
    · rw [hx, Rows.uptoBulk]
      have := bulk_sum bulkP ps D (fun i p hip => (hp i p hip).2.2)
      rw [hps] at this
      unfold bulkPs
      omega
set_option maxRecDepth 100000 in
theorem line_open {base : Nat} {W : World} {v : Value} {d : DataW H} {ps : List MemPlace} (hval : Value.okWide Tryd.prog W .any base 25 v) (h : DataW.Trod enc Tryd.prog W 0 (fun _ => true) true 25 v d ps) :
    ∃ L, LineAt W v L ∧ bulkL L ≤ Rows.uptoBulk d := by
  obtain ⟨v0, v1, v2, v3, y0, y1, y2, y3, n, rfl, rfl, rfl, h0, h1, h2, h3⟩ := Go.Joins.open_agg4 Tryd.underlying25 (by kernel_rfl) (by kernel_rfl) hval h
  obtain ⟨s0, e0, x0, _⟩ := DataW.trod_string Tryd.underlying9 h0
  obtain ⟨s1, e1, x1, _⟩ := DataW.trod_string Tryd.underlying9 h1
  obtain ⟨s3, e3, x3, _⟩ := DataW.trod_string Tryd.underlying9 h3
  obtain ⟨ps, hp, hb⟩ := prms_open h2
  simp at e0 e1 e3
  subst e0; subst e1; subst e3
  refine ⟨⟨s0.data.toList, s1.data.toList, ps, s3.data.toList⟩, ⟨v2, by simp only [sv_data], hp⟩, ?_⟩
  rw [Rows.uptoBulk, Rows.uptoBulkAll, Rows.uptoBulkAll, Rows.uptoBulkAll, Rows.uptoBulkAll, Rows.uptoBulkAll, x0, x1, x3]
  dsimp only
  rw [bulk_string, bulk_string, bulk_string]
  unfold bulkL
  dsimp only
  omega

/-! ### bounds that the bulk gives -/
theorem bulkV_mem {vs : List Row} {v : Row} (h : v ∈ vs) : v.length + 1 ≤ bulkV vs := by
  induction vs with
  | nil => cases h
  | cons u vs ih =>
    unfold bulkV
    rw [List.map_cons, List.sum_cons]
    rcases List.mem_cons.1 h with rfl | h
    · omega
    · have := ih h; unfold bulkV at this; omega
theorem bulkV_len (vs : List Row) : vs.length ≤ bulkV vs := by
  induction vs with
  | nil => simp [bulkV]
  | cons u vs ih => unfold bulkV at ih ⊢; rw [List.map_cons, List.sum_cons, List.length_cons]; omega
theorem bulkPs_mem {ps : List PD} {p : PD} (h : p ∈ ps) : bulkP p ≤ bulkPs ps := by
  induction ps with
  | nil => cases h
  | cons u ps ih =>
    unfold bulkPs
    rw [List.map_cons, List.sum_cons]
    rcases List.mem_cons.1 h with rfl | h
    · omega
    · have := ih h; unfold bulkPs at this; omega
theorem bulkPs_len (ps : List PD) : ps.length ≤ bulkPs ps := by
  induction ps with
  | nil => simp [bulkPs]
  | cons u ps ih => have : 1 ≤ bulkP u := by unfold bulkP; omega
                    unfold bulkPs at ih ⊢; rw [List.map_cons, List.sum_cons, List.length_cons]; omega
theorem wvs_bulk : ∀ (vs : List Row) (m : UInt8), (wvs m vs).length ≤ 3 * bulkV vs
  | [], m => by simp [wvs]
  | v :: vs, m => by
    have := wvs_bulk vs 44
    have := wval_len v
    unfold bulkV at *
    rw [List.map_cons, List.sum_cons, wvs, List.length_cons, List.length_append]
    omega
theorem wprms_bulk : ∀ (ps : List PD), (wprms ps).length ≤ 3 * bulkPs ps
  | [] => by simp [wprms]
  | p :: ps => by
    have := wprms_bulk ps
    have := wvs_bulk p.vals 61
    have e : (wprm p).length = 1 + (p.name.length + (wvs 61 p.vals).length) := by unfold wprm; rw [List.length_cons, List.length_append]; omega
    unfold bulkPs at *
    rw [List.map_cons, List.sum_cons, wprms_cons, List.length_append, e]
    unfold bulkP at *
    omega
theorem pr_bulk (L : LD) : (pr L).length ≤ 3 * bulkL L + 2 := by
  have := wprms_bulk L.params
  unfold pr bulkL
  split
  · rw [List.length_append, List.length_append, List.length_cons]; omega
  · rw [List.length_append, List.length_append, List.length_append, List.length_cons, List.length_cons]; omega
end Go.Proofs.YthkcjfoihieooaaDoor.La
