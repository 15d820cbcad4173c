/-
  THE WALK OF THE REFERENCE's Same: two rows of sessions compared.
-/
import Derived.Test.YtnmcgmfpalgpnaaSesRefAsk
import Derived.Laws.StructEq
set_option linter.unusedVariables false
namespace Go.Proofs.Ytnmcgmfpalgpnaa.Se
open Go.Lib Go.RowKit

def fieldG (f : Field) : Bool × TypeId × Nat := (decide (f.name ≠ "_"), f.type, f.offset)
theorem fields_rs : (Try.prog.fieldsOf 42).toList.map fieldG = [(true, 3, 0), (true, 3, 1), (true, 3, 2), (true, 9, 3)] := by kernel_rfl
theorem four_of {L : List Field} {a b c d : Bool × TypeId × Nat} (h : L.map fieldG = [a, b, c, d]) : ∃ f0 f1 f2 f3, L = [f0, f1, f2, f3] ∧ fieldG f0 = a ∧ fieldG f1 = b ∧ fieldG f2 = c ∧ fieldG f3 = d := by
  rcases L with _ | ⟨f0, _ | ⟨f1, _ | ⟨f2, _ | ⟨f3, _ | ⟨f4, L⟩⟩⟩⟩⟩ <;> simp at h
  exact ⟨f0, f1, f2, f3, rfl, h.1, h.2.1, h.2.2.1, h.2.2.2⟩
theorem field_run {f : Field} {t : TypeId} {o : Nat} (h : fieldG f = (true, t, o)) (d : Nat) (xs ys : Array Value) (fs : List Field) (W : World) (hk : Try.prog.plainKey t = true) (u v : Value) (b : Bool) (hx : xs[o]? = some u) (hy : ys[o]? = some v) (hE : (Op.equalIn d t u v).run Try.prog W = .ok b W) :
    (Op.eqFields d xs ys (f :: fs)).run Try.prog W = if b = true then (Op.eqFields d xs ys fs).run Try.prog W else .ok false W := by
  unfold fieldG at h
  simp only [Prod.mk.injEq, decide_eq_true_eq] at h
  obtain ⟨h1, rfl, rfl⟩ := h
  simp only [Op.eqFields, if_pos h1, Sem.run_bind]
  rw [run_part_plain W hk hx]
  simp only [Result.andThen_ok]
  rw [run_part_plain W hk hy]
  simp only [Result.andThen_ok]
  rw [hE]
  cases b <;> simp
set_option maxRecDepth 100000 in
theorem eq_self (a b c : Int) (x : ByteArray) (W : World) : (Op.equalIn 10000 42 (.agg #[.int .i64 a, .int .i64 b, .int .i64 c, .string x]) (.agg #[.int .i64 a, .int .i64 b, .int .i64 c, .string x])).run Try.prog W = .ok true W := by
  rw [run_equalIn_struct W 9999 42 _ _ (by kernel_rfl) (by kernel_rfl)]
  obtain ⟨f0, f1, f2, f3, e, h0, h1, h2, h3⟩ := four_of fields_rs
  rw [e]
  rw [field_run h0 9999 _ _ _ W (by kernel_rfl) (.int .i64 a) (.int .i64 a) true rfl rfl (by rw [run_equalIn_int W 9998 _ .i64 .i64 a a Try.underlying3]; simp)]
  rw [field_run h1 9999 _ _ _ W (by kernel_rfl) (.int .i64 b) (.int .i64 b) true rfl rfl (by rw [run_equalIn_int W 9998 _ .i64 .i64 b b Try.underlying3]; simp)]
  rw [field_run h2 9999 _ _ _ W (by kernel_rfl) (.int .i64 c) (.int .i64 c) true rfl rfl (by rw [run_equalIn_int W 9998 _ .i64 .i64 c c Try.underlying3]; simp)]
  rw [field_run h3 9999 _ _ _ W (by kernel_rfl) (.string x) (.string x) true rfl rfl (by rw [run_equalIn_string W 9998 _ x x Try.underlying9]; simp)]
  simp [Op.eqFields]

set_option maxHeartbeats 4000000 in
set_option maxRecDepth 100000 in
/-- rows that read alike -/
theorem refSame_yes (v u : Value) (t : Tb ByteArray) (w : World) (hv : RsS w v t) (hu : RsS w u t) (ht : t.length ≤ 1099511627776) :
    Calls Try.prog 17 #[v, u] w fun e w' => e = .returned (.bool true) ∧ ∃ m, w' = w.drewN m := by
  obtain ⟨A, g, off, c, rfl, h1, h2, h3, h4⟩ := hv
  obtain ⟨A2, g2, off2, c2, rfl, k1, k2, k3, k4⟩ := hu
  obtain ⟨n, hn⟩ : ∃ n, t.length = n := ⟨_, rfl⟩
  rw [hn] at ht h1 h3 k1 k3 ⊢
  have hn' := Lib.hid hn
  have h3' := Lib.hid h3
  have h4' := Lib.hid h4
  have k3' := Lib.hid k3
  have k4' := Lib.hid k4
  unfold maxLen at h2 k2
  clear hn h3 h4 k3 k4
  go_enter Try.func17, Try.ntmps17
  go_wp2
  go_loopw [13] (fun s13 wr => ∃ i m : Nat, s13 = .int .i64 (i : Int) ∧ i ≤ n ∧ wr = w.drewN m) (fun s13 wr => n - (RowKit.intOf s13).toNat)
  case atStart => exact ⟨0, 0, rfl, Nat.zero_le _, rfl⟩
  case round =>
    obtain ⟨i, m, rfl, hi, rfl⟩ := hrel
    by_cases hlt : i < n
    · obtain ⟨r, hr⟩ : ∃ r, t[i]? = some r := ⟨_, List.getElem?_eq_getElem (by rw [hn'.out]; exact hlt)⟩
      obtain ⟨rfl, hg⟩ := h3'.out (by omega)
      obtain ⟨rfl, hg2⟩ := k3'.out (by omega)
      obtain ⟨hc, hc1, hc2, hc3⟩ := h4'.out i r hr
      obtain ⟨kc, kc1, kc2, kc3⟩ := k4'.out i r hr
      obtain ⟨rid, rl, ru, rx⟩ := r
      have hq : ∀ W, _ := fun W => eq_self rid rl ru rx W
      simp only at hc hc1 hc2 hc3 kc kc1 kc2 kc3
      clear hr
      go_wp2
      go_quiet (fail)
      go_wp2
      exact ⟨⟨i + 1, m + nq, by go_num, by omega, rfl⟩, by simp [RowKit.intOf]; omega⟩
    · go_wp2
      go_ret
      exact ⟨rfl, _, rfl⟩
end Go.Proofs.Ytnmcgmfpalgpnaa.Se
