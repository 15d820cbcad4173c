/-
  LAYER session: what the program's calls must keep, as propositions over a table that is one cell, a slice of rows.
-/
import Derived.Test.YtnmcgmfpalgpnaaSesRefAsk
set_option linter.unusedVariables false
namespace Go.Proofs.Ytnmcgmfpalgpnaa.Se
open Go.Lib Go.RowKit

abbrev eI (x : Int) : Value := .int .i64 x
abbrev pt (b : Nat) : Value := .pointer (some ⟨b, 0, none⟩)
def OpenC {α : Type} (em : α → Value) (z : α) (ty e : TypeId) (f : FuncId) : Prop := ∀ (B b : Nat) (v : Value) (t : Tb α) (now : Int) (w : World), Tab em ty e B b v t w → B ≤ w.heap.size → t.length ≤ 8 → (t.map Ro.id).Nodup →
  Calls Try.prog f #[pt b, .int .i64 now] w fun en w' => en = .returned (.bool (openT z t now).2) ∧ After em ty e B b v (openT z t now).1 w w'
def AskC {α : Type} (em : α → Value) (z : α) (ty e : TypeId) (f : FuncId) : Prop := ∀ (B b : Nat) (v : Value) (t : Tb α) (id seq : Int) (w : World), Tab em ty e B b v t w → B ≤ w.heap.size → t.length ≤ 8 →
  Calls Try.prog f #[pt b, .int .i64 id, .int .i64 seq] w fun en w' => en = askE em z t id seq ∧ Below w.heap.size w w'
def DoneC {α : Type} (em : α → Value) (z : α) (ty e : TypeId) (f : FuncId) : Prop := ∀ (B b : Nat) (v : Value) (t : Tb α) (id seq now : Int) (x : α) (w : World), Tab em ty e B b v t w → B ≤ w.heap.size → t.length ≤ 8 → (t.map Ro.id).Nodup →
  Calls Try.prog f #[pt b, .int .i64 id, .int .i64 seq, .int .i64 now, em x] w fun en w' => en = .returned (.bool (doneT z t id seq now x).2) ∧ After em ty e B b v (doneT z t id seq now x).1 w w'
def RowsC {α : Type} (em : α → Value) (ty e : TypeId) (f : FuncId) : Prop := ∀ (B b : Nat) (v : Value) (t : Tb α) (w : World), Tab em ty e B b v t w → B ≤ w.heap.size → t.length ≤ 8 →
  Calls Try.prog f #[pt b] w fun en w' => (∃ u, en = .returned u ∧ RsOwn em e w.heap.size u t w') ∧ Below w.heap.size w w'
def SetC {α : Type} (em : α → Value) (ty e : TypeId) (f : FuncId) : Prop := ∀ (B b : Nat) (v vl : Value) (t l : Tb α) (w : World), Tab em ty e B b v t w → B ≤ w.heap.size → RsAt em w vl l → l.length ≤ 1099511627776 →
  Calls Try.prog f #[pt b, vl] w fun en w' => en = .returned (.bool (setT t l).2) ∧ After em ty e B b v (setT t l).1 w w'
/-- a table that has just been laid -/
theorem fresh_tab {α : Type} (em : α → Value) (ty e : TypeId) (w : World) : Tab em ty e w.heap.size w.heap.size (.slice none 0 0) [] (w.alloc (.cells #[.slice none 0 0] ty)) :=
  ⟨Nat.le_refl _, heap_alloc_new _ _, RsOwn.nil _ _ _ _, by simp [Value.ownBlock]⟩
theorem After.below {α : Type} {em : α → Value} {ty e : TypeId} {B b : Nat} {v : Value} {t t' : Tb α} {a w w' : World} (h : After em ty e B b v t' w w') (hT : Tab em ty e B b v t w) (ha : Below B a w) (hB : B ≤ w.heap.size) : Below B a w' := by
  obtain ⟨v', _, _, hE⟩ := h
  exact hE.below ha hT.low (fun k hk => (hT.ownLt k hk).1) hB
theorem least_ne {α : Type} {t : Tb α} (h : t ≠ []) : ∃ m, least t = some m ∧ ∃ r ∈ t, r.used = m := by
  obtain ⟨m, h1, _, h2⟩ := least_some h
  exact ⟨m, h1, h2⟩
theorem drop_len {α : Type} {t : Tb α} (h : t ≠ []) : (dropLeast t).length = t.length - 1 := by
  obtain ⟨m, h1, r, hr, hm⟩ := least_ne h
  unfold dropLeast
  rw [h1]
  exact List.length_eraseP_of_mem hr (by simp [hm])
theorem open_len {α : Type} (z : α) {t : Tb α} (h : t.length ≤ 8) (now : Int) : (openT z t now).1.length ≤ 8 := by
  unfold openT
  split
  · exact h
  · show (_ ++ _ : Tb α).length ≤ 8
    rw [List.length_append]
    split
    · simp; omega
    · have := drop_len (t := t) (by rintro rfl; simp at *)
      simp; omega
theorem done_len {α : Type} (z : α) (t : Tb α) (id seq now : Int) (x : α) : (doneT z t id seq now x).1.length = t.length := by
  unfold doneT
  split <;> simp
theorem done_ids {α : Type} (z : α) (t : Tb α) (id seq now : Int) (x : α) : (doneT z t id seq now x).1.map Ro.id = t.map Ro.id := by
  unfold doneT
  split
  · rfl
  · show (t.map _).map Ro.id = _
    rw [List.map_map]
    refine List.map_congr_left fun y _ => ?_
    show (if y.id = id then _ else y : Ro α).id = y.id
    split <;> rfl
theorem open_ids {α : Type} (z : α) {t : Tb α} (h : (t.map Ro.id).Nodup) (now : Int) : ((openT z t now).1.map Ro.id).Nodup := by
  unfold openT
  split
  · exact h
  · rename_i hn
    show ((_ ++ _ : Tb α).map Ro.id).Nodup
    rw [List.map_append, List.nodup_append]
    have hsub : (if t.length < 8 then t else dropLeast t).Sublist t := by
      split
      · exact List.Sublist.refl _
      · exact drop_sub t
    refine ⟨(hsub.map Ro.id).nodup h, by simp, fun a ha b hb => ?_⟩
    simp at hb
    subst hb
    obtain ⟨r, hr, rfl⟩ := List.mem_map.1 ha
    intro e
    apply hn
    right
    unfold late
    exact List.any_eq_true.2 ⟨r, hsub.subset hr, by simp [e]⟩
theorem late_ids {α : Type} (z : α) {t : Tb α} : ((([] : Tb α)).map Ro.id).Nodup := by simp
end Go.Proofs.Ytnmcgmfpalgpnaa.Se
