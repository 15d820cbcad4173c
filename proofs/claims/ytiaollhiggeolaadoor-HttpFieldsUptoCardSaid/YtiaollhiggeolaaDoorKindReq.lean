/-
  PARAMETERS OF TYPE []api.Field, api.Request, api.Response: what their reading gives.
-/
import Derived.Test.YtiaollhiggeolaaDoorLaidP
import Derived.Test.YtiaollhiggeolaaDoorHttpMem
import Derived.ChangeSame
import Derived.ChangeSlices
import Derived.Deep.Slices
import Derived.Deep.Fields
import Derived.Lib.SmallJoins
import Derived.Carry
set_option linter.unusedVariables false
namespace Go.Proofs.YtiaollhiggeolaaDoor.La
open Go.Lib Go.RowKit Go.Shelf Go.ChangeShapes Go.WideShapes Go.ChangeAt Go.Deep Ht

theorem laidOut : laidOutB Tryd.prog = true := by kernel_rfl
theorem listed {α : Type} (P : Nat → α → Prop) : ∀ n, (∀ i, i < n → ∃ x, P i x) → ∃ xs : List α, xs.length = n ∧ ∀ (i : Nat) (x : α), xs[i]? = some x → P i x
  | 0, _ => ⟨[], rfl, fun i x h => by simp at h⟩
  | n + 1, h => by
    obtain ⟨xs, hl, hx⟩ := listed P n (fun i hi => h i (by omega))
    obtain ⟨x, hxn⟩ := h n (by omega)
    refine ⟨xs ++ [x], by simp [hl], fun i y hy => ?_⟩
    by_cases hi : i < n
    · rw [List.getElem?_append_left (by omega)] at hy
      exact hx i y hy
    · rw [List.getElem?_append_right (by omega)] at hy
      have h0 : i - xs.length = 0 := by have := (List.getElem?_eq_some_iff.1 hy).1; simp at this; omega
      rw [h0] at hy
      simp at hy
      subst hy
      rw [show i = n by omega]
      exact hxn
variable {H : Type} {enc : TypeId × Value → H}
theorem bulk_sum {α : Type} (f : α → Nat) : ∀ (xs : List α) (D : Nat → DataW H), (∀ (i : Nat) (x : α), xs[i]? = some x → f x ≤ Rows.uptoBulk (D i)) → (xs.map f).sum ≤ Rows.uptoBulkAll ((List.range xs.length).map D)
  | [], D, _ => by simp
  | x :: xs, D, h => by
    have h0 := h 0 x rfl
    have ih := bulk_sum f xs (fun i => D (i + 1)) (fun i y hy => h (i + 1) y (by simpa using hy))
    rw [List.length_cons, List.range_succ_eq_map, List.map_cons, List.map_cons, List.map_map, List.sum_cons, Rows.uptoBulkAll]
    have e : (D ∘ Nat.succ) = fun i => D (i + 1) := rfl
    rw [e]
    omega
theorem spot_none {W : World} {a : Addr} {v : Value} (h : W.cell? a = some v) : a.spot = none := by
  cases hs : a.spot with
  | none => rfl
  | some x =>
    exfalso
    unfold World.cell? at h
    rw [hs] at h
    split at h <;> simp at h
theorem add_spot (a : Addr) (h : (a.add 0).spot = none) : a = ⟨a.block, a.off, none⟩ := by
  obtain ⟨b, off, spot⟩ := a
  unfold Addr.add at h
  split at h <;> simp_all
theorem add_is (b off i : Nat) : (⟨b, off, none⟩ : Addr).add i = ⟨b, off + i, none⟩ := by
  unfold Addr.add
  split
  · rename_i h; subst h; rfl
  · rfl

def szD (p : Ht.Fd) : Nat := p.1.length + p.2.length + 1
theorem szF_is (fs : List Ht.Fd) : szF fs = (fs.map szD).sum := rfl
set_option maxRecDepth 100000 in
theorem flds_trod {W : World} {fuel : Nat} {v : Value} {x : DataW H × List MemPlace} (h : DataW.trod enc Tryd.prog W 0 (fun _ => true) true fuel 22 [v] = some x) : ∃ fs, FsAt W v fs ∧ szF fs ≤ Rows.uptoBulk x.1 := by
  have hce : Tryd.prog.cellsOf 47 = 2 := by kernel_rfl
  have h1s : Tryd.prog.cellsOf 9 = 1 := by kernel_rfl
  rcases open_slice Tryd.underlying22 h with ⟨hcs, hx⟩ | ⟨a, len, cap, m, n, D, Pl, hcs, _, hl, hm, hmm, hx, hi⟩
  · simp at hcs
    subst hcs
    exact ⟨[], FsAt.nil W none, Nat.zero_le _⟩
  · simp at hcs
    subst hcs
    simp only [if_true] at hmm
    rw [hce] at hi
    obtain ⟨qs, hqs, hp⟩ := listed (fun i (p : Ht.Fd) => W.cell? (a.add (i * 2)) = some (sv p.1) ∧ W.cell? ((a.add (i * 2)).add 1) = some (sv p.2) ∧ szD p ≤ Rows.uptoBulk (D i)) len (fun i hil => by
      obtain ⟨cs', hc, ht⟩ := hi i (by omega)
      obtain ⟨_, hcl, hat⟩ := World.cells?_some hc
      obtain ⟨y0, y1, n', hy, _, ht0, ht1⟩ := trod_struct2 Tryd.underlying47 ht
      match cs', hcl with
      | [c0, c1], _ =>
        have e0 := hat 0 (by omega)
        have e1 := hat 1 (by omega)
        simp only [h1s, List.drop_zero, List.take_succ_cons, List.take_zero, List.drop_succ_cons] at ht0 ht1
        obtain ⟨s2, hs2, hx2, _⟩ := DataW.trod_string Tryd.underlying9 ht0
        obtain ⟨s3, hs3, hx3, _⟩ := DataW.trod_string Tryd.underlying9 ht1
        simp at hs2 hs3
        subst hs2; subst hs3
        simp only [Prod.mk.injEq] at hy
        have ez : (a.add (i * 2)).add 0 = a.add (i * 2) := by unfold Addr.add; simp
        rw [ez] at e0
        refine ⟨⟨s2.data.toList, s3.data.toList⟩, ?_, ?_, ?_⟩
        · rw [sv_data]; simpa using e0
        · rw [sv_data]; simpa using e1
        · rw [hy.1, Rows.uptoBulk, Rows.uptoBulkAll, Rows.uptoBulkAll, Rows.uptoBulkAll, hx2, hx3]
          dsimp only
          rw [bulk_string, bulk_string]
          unfold szD
          dsimp only
          omega)
    have key : 0 < qs.length → a = ⟨a.block, a.off, none⟩ ∧ a.block < W.heap.size := fun h0 => by
      have h1 : qs[0]? = some (qs[0]'h0) := List.getElem?_eq_getElem _
      have h2 := (hp 0 _ h1).1
      rw [Nat.zero_mul] at h2
      have h3 := add_spot a (spot_none h2)
      have h4 := World.block_lt_of_cell? W (a.add 0) h2
      rw [h3, add_is] at h4
      exact ⟨h3, h4⟩
    refine ⟨qs, ⟨some a, a.block, a.off, cap, by rw [hqs], by omega, hm, fun h0 => ?_, fun j p hj => ?_⟩, ?_⟩
    · obtain ⟨h3, h4⟩ := key h0
      exact ⟨by rw [← h3], h4⟩
    · obtain ⟨g0, g1, _⟩ := hp j p hj
      obtain ⟨h3, _⟩ := key (by have := (List.getElem?_eq_some_iff.1 hj).1; omega)
      rw [h3, add_is] at g0
      rw [h3, add_is, add_is] at g1
      exact ⟨g0, g1⟩
    · rw [hx, Rows.uptoBulk]
      have := bulk_sum szD qs D (fun i p hip => (hp i p hip).2.2)
      rw [hqs] at this
      rw [szF_is]
      omega
set_option maxRecDepth 100000 in
theorem flds_open {base : Nat} {W : World} {v : Value} {d : DataW H} {ps : List MemPlace} (hval : Value.okWide Tryd.prog W .any base 22 v) (h : DataW.Trod enc Tryd.prog W 0 (fun _ => true) true 22 v d ps) :
    ∃ qs, FsAt W v qs ∧ szF qs ≤ Rows.uptoBulk d := by
  obtain ⟨a0, len0, cap0, rfl⟩ := okWide_slice Tryd.underlying22 hval
  obtain ⟨fuel, hf⟩ := h
  exact flds_trod (x := (d, ps)) hf
set_option maxRecDepth 100000 in
theorem req_open {base : Nat} {W : World} {v : Value} {d : DataW H} {ps : List MemPlace} (hval : Value.okWide Tryd.prog W .any base 24 v) (h : DataW.Trod enc Tryd.prog W 0 (fun _ => true) true 24 v d ps) :
    ∃ (m t b : ByteArray) (fv : Value) (fs : List Ht.Fd), v = .agg #[.string m, .string t, fv, .string b] ∧ FsAt W fv fs ∧ m.size + t.size + b.size + szF fs ≤ Rows.uptoBulk d := by
  obtain ⟨v0, v1, v2, v3, y0, y1, y2, y3, n, rfl, rfl, rfl, h0, h1, h2, h3⟩ := Go.Joins.open_agg4 Tryd.underlying24 (by kernel_rfl) (by kernel_rfl) hval h
  obtain ⟨s0, e0, x0, _⟩ := DataW.trod_string Tryd.underlying9 h0
  obtain ⟨s1, e1, x1, _⟩ := DataW.trod_string Tryd.underlying9 h1
  obtain ⟨s3, e3, x3, _⟩ := DataW.trod_string Tryd.underlying9 h3
  obtain ⟨fs, hp, hb⟩ := flds_trod h2
  simp at e0 e1 e3
  subst e0; subst e1; subst e3
  refine ⟨s0, s1, s3, v2, fs, rfl, hp, ?_⟩
  rw [Rows.uptoBulk, Rows.uptoBulkAll, Rows.uptoBulkAll, Rows.uptoBulkAll, Rows.uptoBulkAll, Rows.uptoBulkAll, x0, x1, x3]
  dsimp only
  rw [bulk_string, bulk_string, bulk_string]
  simp only [Lib.size_eq]
  omega
set_option maxRecDepth 100000 in
theorem rsp_open {base : Nat} {W : World} {v : Value} {d : DataW H} {ps : List MemPlace} (hval : Value.okWide Tryd.prog W .any base 26 v) (h : DataW.Trod enc Tryd.prog W 0 (fun _ => true) true 26 v d ps) :
    ∃ (n : Int) (b : ByteArray) (fv : Value) (fs : List Ht.Fd), v = .agg #[.int .i64 n, fv, .string b] ∧ FsAt W fv fs ∧ b.size + szF fs ≤ Rows.uptoBulk d ∧ (Lit.int .i64 n).wf = true := by
  obtain ⟨v0, v2, v3, y0, y2, y3, n, rfl, rfl, rfl, h0, h2, h3⟩ := Go.Joins.open_agg3 Tryd.underlying26 (by kernel_rfl) (by kernel_rfl) hval h
  obtain ⟨n0, e0, x0, wf0⟩ := DataW.trod_int Tryd.underlying3 h0
  obtain ⟨s3, e3, x3, _⟩ := DataW.trod_string Tryd.underlying9 h3
  obtain ⟨fs, hp, hb⟩ := flds_trod h2
  simp at e0 e3
  subst e0; subst e3
  refine ⟨n0, s3, v2, fs, rfl, hp, ?_, wf0⟩
  rw [Rows.uptoBulk, Rows.uptoBulkAll, Rows.uptoBulkAll, Rows.uptoBulkAll, Rows.uptoBulkAll, x0, x3]
  dsimp only
  rw [bulk_string]
  simp only [Lib.size_eq]
  omega
/-- the last step of a row whose call left all that there was -/
theorem post_left {P : Program} {f : Func} {s : OpenSpec} {F : Stop.Interp} {apart fresh handsOn again : Bool} {W W' : World} {args : Array Value} {v : Value} {ds gs : List (DataW H)} {before pa pv : List MemPlace}
    (hW : DataW.Whole enc P f.params.toList s.vars apart W args.toList ds gs before)
    (hres : ∀ (b : Nat) (sp : Nat → Bool) (hd : Bool), DataW.TrodAll enc P W' b sp hd f.resultTypes.toList (v.resultList f.resultTypes.size) ((s.at F).fn H (ds ++ gs)).results [])
    (hargs : DataW.TrodAll enc P W' 0 (fun b => decide (b < W.heap.size)) true f.params.toList args.toList ((s.at F).fn H (ds ++ gs)).args pa)
    (hvars : DataW.TrodVars enc P W' (fun b => decide (b < W.heap.size)) s.vars ((s.at F).fn H (ds ++ gs)).vars pv)
    (hps : before = pa ++ pv) (hb : Below W.heap.size W W') (hag : again = false) :
    (s.at F).post enc P f apart fresh handsOn again W args v W' := by
  subst hag
  exact ⟨ds, gs, before, [], pa, pv, hW, hres _ _ _, hargs, hvars, World.keptBut_mono (fun p hp => ⟨hp, by rw [hps, List.mem_append] at hp; exact Or.inr hp⟩) (hb.frame (· ∈ before)), fun h => by cases h⟩
end Go.Proofs.YtiaollhiggeolaaDoor.La
