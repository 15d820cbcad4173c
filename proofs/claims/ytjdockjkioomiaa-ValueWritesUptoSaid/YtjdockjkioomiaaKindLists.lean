/-
  A PARAMETER OF TYPE [][]string: what its reading gives; the last step of a row whose call left all that there was.
-/
import Derived.Test.YtjdockjkioomiaaBulk
import Derived.Test.YtjdockjkioomiaaValueMem
import Derived.ChangeSame
import Derived.ChangeSlices
import Derived.Deep.Slices
import Derived.Deep.Fields
import Derived.Lib.SmallJoins
import Derived.Carry
set_option linter.unusedVariables false
namespace Go.Proofs.Ytjdockjkioomiaa.La
open Go.Lib Go.RowKit Go.ChangeShapes Go.WideShapes Go.ChangeAt Go.Deep Va

def bulkV (vs : List Row) : Nat := (vs.map fun v => v.length + 1).sum
def bulkF (fs : List (List Row)) : Nat := (fs.map fun vs => bulkV vs + 1).sum
theorem listed {α : Type} (P : Nat → α → Prop) : ∀ n, (∀ i, i < n → ∃ x, P i x) → ∃ xs : List α, xs.length = n ∧ ∀ (i : Nat) (x : α), xs[i]? = some x → P i x
  | 0, _ => ⟨[], rfl, fun i x h => by simp at h⟩
  | n + 1, h => by
    obtain ⟨xs, hl, hx⟩ := listed P n (fun i hi => h i (by omega))
    obtain ⟨x, hxn⟩ := h n (by omega)
    refine ⟨xs ++ [x], by simp [hl], fun i y hy => ?_⟩
    by_cases hi : i < n
    · rw [List.getElem?_append_left (by omega)] at hy
      exact hx i y hy
    · rw [List.getElem?_append_right (by omega)] at hy
      have h0 : i - xs.length = 0 := by have := (List.getElem?_eq_some_iff.1 hy).1; simp at this; omega
      rw [h0] at hy
      simp at hy
      subst hy
      rw [show i = n by omega]
      exact hxn
variable {H : Type} {enc : TypeId × Value → H}
theorem bulk_sum {α : Type} (f : α → Nat) : ∀ (xs : List α) (D : Nat → DataW H), (∀ (i : Nat) (x : α), xs[i]? = some x → f x ≤ Rows.uptoBulk (D i)) → (xs.map f).sum ≤ Rows.uptoBulkAll ((List.range xs.length).map D)
  | [], D, _ => by simp
  | x :: xs, D, h => by
    have h0 := h 0 x rfl
    have ih := bulk_sum f xs (fun i => D (i + 1)) (fun i y hy => h (i + 1) y (by simpa using hy))
    rw [List.length_cons, List.range_succ_eq_map, List.map_cons, List.map_cons, List.map_map, List.sum_cons, Rows.uptoBulkAll]
    have e : (D ∘ Nat.succ) = fun i => D (i + 1) := rfl
    rw [e]
    omega
theorem spot_none {W : World} {a : Addr} {v : Value} (h : W.cell? a = some v) : a.spot = none := by
  cases hs : a.spot with
  | none => rfl
  | some x =>
    exfalso
    unfold World.cell? at h
    rw [hs] at h
    split at h <;> simp at h
theorem add_spot (a : Addr) (h : (a.add 0).spot = none) : a = ⟨a.block, a.off, none⟩ := by
  obtain ⟨b, off, spot⟩ := a
  unfold Addr.add at h
  split at h <;> simp_all
theorem add_is (b off i : Nat) : (⟨b, off, none⟩ : Addr).add i = ⟨b, off + i, none⟩ := by
  unfold Addr.add
  split
  · rename_i h; subst h; rfl
  · rfl
/-- cells that read, as a row -/
theorem row_of {α : Type} {P : World → Value → α → Prop} {W : World} {a : Addr} {len cap : Nat} {xs : List α} (hxs : xs.length = len) (hl : len ≤ cap) (hm : cap ≤ maxLen) (hp : ∀ (i : Nat) (x : α), xs[i]? = some x → ∃ u, W.cell? (a.add i) = some u ∧ P W u x) : RowAt P W (.slice (some a) len cap) xs := by
  have key : 0 < xs.length → a = ⟨a.block, a.off, none⟩ ∧ a.block < W.heap.size := fun h0 => by
    have h1 : xs[0]? = some (xs[0]'h0) := List.getElem?_eq_getElem _
    obtain ⟨u, h2, _⟩ := hp 0 _ h1
    have h3 := add_spot a (spot_none h2)
    have h4 := World.block_lt_of_cell? W (a.add 0) h2
    rw [h3, add_is] at h4
    exact ⟨h3, h4⟩
  refine ⟨some a, a.block, a.off, cap, by rw [hxs], by omega, hm, fun h0 => ?_, fun j x hj => ?_⟩
  · obtain ⟨h3, h4⟩ := key h0
    exact ⟨by rw [← h3], h4⟩
  · obtain ⟨u, h2, hx⟩ := hp j x hj
    obtain ⟨h3, _⟩ := key (by have := (List.getElem?_eq_some_iff.1 hj).1; omega)
    rw [h3, add_is] at h2
    exact ⟨u, h2, hx⟩

set_option maxRecDepth 100000 in
theorem strs_open {W : World} {fuel : Nat} {v : Value} {x : DataW H × List MemPlace} (h : DataW.trod enc Try.prog W 0 (fun _ => true) true fuel 29 [v] = some x) : ∃ ls, StrsAt W v ls ∧ bulkV ls + 1 ≤ Rows.uptoBulk x.1 := by
  have hce : Try.prog.cellsOf 9 = 1 := by kernel_rfl
  rcases open_slice1 Try.underlying29 hce h with ⟨hcs, hx⟩ | ⟨a, len, cap, m, n, V, D, Pl, hcs, _, hl, hm, hmm, hx, hi⟩
  · simp at hcs
    subst hcs
    exact ⟨[], rowAt_nil _ _, by rw [hx, Rows.uptoBulk]; exact Nat.le_refl _⟩
  · simp at hcs
    subst hcs
    simp only [if_true] at hmm
    obtain ⟨ls, hls, hp⟩ := listed (fun i (l : Row) => W.cell? (a.add i) = some (sv l) ∧ l.length + 1 ≤ Rows.uptoBulk (D i)) len (fun i hil => by
      obtain ⟨h1, h2⟩ := hi i (by omega)
      obtain ⟨s, hs, hsx, _⟩ := DataW.trod_string Try.underlying9 h2
      simp only [Prod.mk.injEq] at hsx
      simp at hs
      refine ⟨s.data.toList, by rw [h1, hs, sv_data], ?_⟩
      rw [hsx.1, bulk_string]
      exact Nat.le_refl _)
    refine ⟨ls, row_of hls hl hm (fun i l hj => ⟨_, (hp i l hj).1, rfl⟩), ?_⟩
    rw [hx, Rows.uptoBulk]
    have := bulk_sum (fun l : Row => l.length + 1) ls D (fun i l hil => (hp i l hil).2)
    rw [hls] at this
    unfold bulkV
    omega
set_option maxRecDepth 100000 in
theorem lists_open {base : Nat} {W : World} {v : Value} {d : DataW H} {ps : List MemPlace} (hval : Value.okWide Try.prog W .any base 32 v) (h : DataW.Trod enc Try.prog W 0 (fun _ => true) true 32 v d ps) :
    ∃ fs, ListsAt W v fs ∧ bulkF fs ≤ Rows.uptoBulk d := by
  obtain ⟨a0, len0, cap0, rfl⟩ := okWide_slice Try.underlying32 hval
  obtain ⟨fuel, hf⟩ := h
  have hce : Try.prog.cellsOf 29 = 1 := by kernel_rfl
  rcases open_slice1 Try.underlying32 hce hf with ⟨hcs, hx⟩ | ⟨a, len, cap, m, n, V, D, Pl, hcs, _, hl, hm, hmm, hx, hi⟩
  · simp [Value.cells] at hcs
    obtain ⟨rfl, rfl, rfl⟩ := hcs
    exact ⟨[], rowAt_nil _ _, Nat.zero_le _⟩
  · simp [Value.cells] at hcs
    obtain ⟨rfl, rfl, rfl⟩ := hcs
    simp only [if_true] at hmm
    obtain ⟨fs, hfs, hp⟩ := listed (fun i (ls : List Row) => (∃ u, W.cell? (a.add i) = some u ∧ StrsAt W u ls) ∧ bulkV ls + 1 ≤ Rows.uptoBulk (D i)) len0 (fun i hil => by
      obtain ⟨h1, h2⟩ := hi i (by omega)
      obtain ⟨ls, h3, h4⟩ := strs_open h2
      exact ⟨ls, ⟨_, h1, h3⟩, h4⟩)
    refine ⟨fs, row_of hfs hl hm (fun i ls hj => (hp i ls hj).1), ?_⟩
    simp only [Prod.mk.injEq] at hx
    rw [hx.1, Rows.uptoBulk]
    have := bulk_sum (fun ls : List Row => bulkV ls + 1) fs D (fun i l hil => (hp i l hil).2)
    rw [hfs] at this
    unfold bulkF
    omega

/-! ### bounds that the bulk gives -/
theorem putL_bulk (ls : List Row) : (putL ls).length ≤ 2 * bulkV ls := by
  have key : ∀ ls : List Row, (tl 44 (ls.map put)).length ≤ 2 * bulkV ls := by
    intro ls
    induction ls with
    | nil => simp [tl]
    | cons l ls ih =>
      have := put_len l
      unfold bulkV at ih ⊢
      simp only [List.map_cons, List.sum_cons, tl, List.length_append, List.length_cons]
      omega
  cases ls with
  | nil => simp [putL, jn]
  | cons l ls =>
    have := key (l :: ls)
    simp only [putL, jn, List.map_cons, tl, List.length_append, List.length_cons] at this ⊢
    omega
theorem putF_bulk (fs : List (List Row)) : (putF fs).length ≤ 2 * bulkF fs := by
  have key : ∀ fs : List (List Row), (tl 59 (fs.map putL)).length ≤ 2 * bulkF fs := by
    intro fs
    induction fs with
    | nil => simp [tl]
    | cons l ls ih =>
      have := putL_bulk l
      unfold bulkF at ih ⊢
      simp only [List.map_cons, List.sum_cons, tl, List.length_append, List.length_cons]
      omega
  cases fs with
  | nil => simp [putF, jn]
  | cons l ls =>
    have := key (l :: ls)
    simp only [putF, jn, List.map_cons, tl, List.length_append, List.length_cons] at this ⊢
    omega

/-- the last step of a row whose call left all that there was -/
theorem post_left {P : Program} {f : Func} {s : OpenSpec} {F : Stop.Interp} {apart fresh handsOn again : Bool} {W W' : World} {args : Array Value} {v : Value} {ds gs : List (DataW H)} {before pa pv : List MemPlace}
    (hW : DataW.Whole enc P f.params.toList s.vars apart W args.toList ds gs before)
    (hres : ∀ (b : Nat) (sp : Nat → Bool) (hd : Bool), DataW.TrodAll enc P W' b sp hd f.resultTypes.toList (v.resultList f.resultTypes.size) ((s.at F).fn H (ds ++ gs)).results [])
    (hargs : DataW.TrodAll enc P W' 0 (fun b => decide (b < W.heap.size)) true f.params.toList args.toList ((s.at F).fn H (ds ++ gs)).args pa)
    (hvars : DataW.TrodVars enc P W' (fun b => decide (b < W.heap.size)) s.vars ((s.at F).fn H (ds ++ gs)).vars pv)
    (hps : before = pa ++ pv) (hb : Below W.heap.size W W') (hag : again = false) :
    (s.at F).post enc P f apart fresh handsOn again W args v W' := by
  subst hag
  exact ⟨ds, gs, before, [], pa, pv, hW, hres _ _ _, hargs, hvars, World.keptBut_mono (fun p hp => ⟨hp, by rw [hps, List.mem_append] at hp; exact Or.inr hp⟩) (hb.frame (· ∈ before)), fun h => by cases h⟩
end Go.Proofs.Ytjdockjkioomiaa.La
