/-
  THE WALK OF THE REFERENCE's Same: fields compared.
-/
import Derived.Test.YtiaollhiggeolaaDoorHttpMem
import Derived.Laws.StructEq
import Derived.ChangeKeysEq
import Derived.IntWalk
import Derived.BigQuiet
import Derived.Deep.QuietTactic
import Derived.LoopTactic
set_option linter.unusedVariables false
namespace Go.Proofs.YtiaollhiggeolaaDoor.Ht
open Go.Lib Go.RowKit

def fieldG (f : Field) : Bool × TypeId × Nat := (decide (f.name ≠ "_"), f.type, f.offset)
theorem fields_fd : (Tryd.prog.fieldsOf 47).toList.map fieldG = [(true, 9, 0), (true, 9, 1)] := by kernel_rfl
theorem two_of {L : List Field} {a b : Bool × TypeId × Nat} (h : L.map fieldG = [a, b]) : ∃ f0 f1, L = [f0, f1] ∧ fieldG f0 = a ∧ fieldG f1 = b := by
  rcases L with _ | ⟨f0, _ | ⟨f1, _ | ⟨f2, L⟩⟩⟩ <;> simp at h
  exact ⟨f0, f1, rfl, h.1, h.2⟩
theorem field_run {f : Field} {t : TypeId} {o : Nat} (h : fieldG f = (true, t, o)) (d : Nat) (xs ys : Array Value) (fs : List Field) (W : World) (hk : Tryd.prog.plainKey t = true) (u v : Value) (b : Bool) (hx : xs[o]? = some u) (hy : ys[o]? = some v) (hE : (Op.equalIn d t u v).run Tryd.prog W = .ok b W) :
    (Op.eqFields d xs ys (f :: fs)).run Tryd.prog W = if b = true then (Op.eqFields d xs ys fs).run Tryd.prog W else .ok false W := by
  unfold fieldG at h
  simp only [Prod.mk.injEq, decide_eq_true_eq] at h
  obtain ⟨h1, rfl, rfl⟩ := h
  simp only [Op.eqFields, if_pos h1, Sem.run_bind]
  rw [run_part_plain W hk hx]
  simp only [Result.andThen_ok]
  rw [run_part_plain W hk hy]
  simp only [Result.andThen_ok]
  rw [hE]
  cases b <;> simp
set_option maxRecDepth 100000 in
theorem eq_fd (n1 t1 n2 t2 : ByteArray) (W : World) : (Op.equalIn 10000 47 (.agg #[.string n1, .string t1]) (.agg #[.string n2, .string t2])).run Tryd.prog W = .ok (n1.toList == n2.toList && t1.toList == t2.toList) W := by
  rw [run_equalIn_struct W 9999 47 _ _ (by kernel_rfl) (by kernel_rfl)]
  obtain ⟨f0, f1, e, h0, h1⟩ := two_of fields_fd
  rw [e]
  rw [field_run h0 9999 _ _ _ W (by kernel_rfl) (.string n1) (.string n2) (n1.toList == n2.toList) rfl rfl (run_equalIn_string W 9998 _ n1 n2 Tryd.underlying9)]
  rw [field_run h1 9999 _ _ _ W (by kernel_rfl) (.string t1) (.string t2) (t1.toList == t2.toList) rfl rfl (run_equalIn_string W 9998 _ t1 t2 Tryd.underlying9)]
  cases n1.toList == n2.toList <;> cases t1.toList == t2.toList <;> simp [Op.eqFields]
theorem fd_eq {p q : Fd} {a1 a2 b1 b2 : ByteArray} (h1 : a1.data.toList = p.1) (h2 : a2.data.toList = p.2) (g1 : b1.data.toList = q.1) (g2 : b2.data.toList = q.2) : (a1.toList == b1.toList && a2.toList == b2.toList) = decide (p = q) := by
  rw [Lib.toList_data, Lib.toList_data, Lib.toList_data, Lib.toList_data, h1, h2, g1, g2, Bool.eq_iff_iff, decide_eq_true_iff]
  simp only [Bool.and_eq_true, beq_iff_eq]
  constructor
  · rintro ⟨e1, e2⟩
    cases p; cases q
    simp_all
  · rintro rfl
    simp
theorem take_next {α : Type} {xs ys : List α} {k : Nat} {x : α} (h : xs.take k = ys.take k) (hx : xs[k]? = some x) (hy : ys[k]? = some x) : xs.take (k + 1) = ys.take (k + 1) := by
  obtain ⟨h1, e1⟩ := List.getElem?_eq_some_iff.1 hx
  obtain ⟨h2, e2⟩ := List.getElem?_eq_some_iff.1 hy
  rw [List.take_succ_eq_append_getElem h1, List.take_succ_eq_append_getElem h2, h, e1, e2]
set_option maxHeartbeats 4000000 in
set_option maxRecDepth 100000 in
theorem refSame_any (v1 v2 : Value) (ps qs : List Fd) (w : World) (h1 : FsAt w v1 ps) (h2 : FsAt w v2 qs) :
    Calls Tryd.prog 13 #[v1, v2] w fun e w' => e = .returned (.bool (decide (ps = qs))) ∧ Below w.heap.size w w' := by
  obtain ⟨A, b, off, c, rfl, hc1, hc2, hA, hP⟩ := h1
  obtain ⟨B, b', off', c', rfl, hd1, hd2, hB, hQ⟩ := h2
  unfold maxLen at hc2 hd2
  obtain ⟨R, hR⟩ : ∃ R, decide (ps = qs) = R := ⟨_, rfl⟩
  rw [hR]
  by_cases gn : ps.length = qs.length
  · obtain ⟨n, hn⟩ : ∃ n, ps.length = n := ⟨_, rfl⟩
    have hm : qs.length = n := by omega
    have hno : Hid (∀ (k : Nat) (p q : Fd), ps[k]? = some p → qs[k]? = some q → p ≠ q → R = false) := Lib.hid fun k p q hp hq hne => by
      rw [← hR]
      refine decide_eq_false fun e => ?_
      rw [e, hq] at hp
      exact hne (Option.some.inj hp).symm
    have hyes : Hid (ps.take n = qs.take n → R = true) := Lib.hid fun h => by
      rw [List.take_of_length_le (by omega), List.take_of_length_le (by omega)] at h
      rw [← hR]; exact decide_eq_true h
    rw [hn] at hc1 hA ⊢
    rw [hm] at hd1 hB ⊢
    have hn' := Lib.hid hn
    have hm' := Lib.hid hm
    have hP' := Lib.hid hP
    have hQ' := Lib.hid hQ
    have hA' := Lib.hid hA
    have hB' := Lib.hid hB
    clear gn hn hm hP hQ hA hB hR
    go_enter Tryd.func13, Tryd.ntmps13
    go_wp2
    go_loopw [13] (fun s13 wr => ∃ k : Nat, s13 = .int .i64 (k : Int) ∧ k ≤ n ∧ ps.take k = qs.take k ∧ Below w.heap.size w wr) (fun s13 wr => n - (RowKit.intOf s13).toNat)
    case atStart => exact ⟨0, rfl, Nat.zero_le _, rfl, Below.refl _ _⟩
    case round =>
      obtain ⟨k, rfl, hk, heq, hbr⟩ := hrel
      by_cases hlt : k < n
      · have hp : ps[k]? = some (ps[k]'(by have := hn'.out; omega)) := List.getElem?_eq_getElem _
        have hq : qs[k]? = some (qs[k]'(by have := hm'.out; omega)) := List.getElem?_eq_getElem _
        obtain ⟨P, hPe⟩ : ∃ P, ps[k]'(by have := hn'.out; omega) = P := ⟨_, rfl⟩
        obtain ⟨Q, hQe⟩ : ∃ Q, qs[k]'(by have := hm'.out; omega) = Q := ⟨_, rfl⟩
        rw [hPe] at hp
        rw [hQe] at hq
        clear hPe hQe
        obtain ⟨rfl, hAb⟩ := hA'.out (by omega)
        obtain ⟨rfl, hBb⟩ := hB'.out (by omega)
        obtain ⟨a1, a2, d1, d2, p0, p1⟩ := FsAt.field hP'.out hAb hbr hp
        obtain ⟨b1, b2, g1, g2, q0, q1⟩ := FsAt.field hQ'.out hBb hbr hq
        have hE := eq_fd a1 a2 b1 b2
        rw [fd_eq d1 d2 g1 g2] at hE
        have hno2 := hno.out k P Q hp hq
        have hbr' := Lib.hid hbr
        by_cases hpq : P = Q
        · have hnx := Lib.hid (take_next heq (by rw [hp, hpq]) hq)
          rw [decide_eq_true hpq] at hE
          clear d1 d2 g1 g2 hp hq hpq hno2 heq hbr
          go_wp2
          go_quiet (fail)
          go_wp2
          go_roundw
          case rel => exact ⟨k + 1, by go_num, by omega, hnx.out, below_drewN _ hbr'.out⟩
          case measure => simp [RowKit.intOf]; omega
        · have hRf := hno2 hpq
          rw [decide_eq_false hpq] at hE
          subst hRf
          clear d1 d2 g1 g2 hp hq hpq hno2 heq hbr
          go_wp2
          go_quiet (fail)
          go_wp2
          go_ret
          exact ⟨rfl, below_drewN _ hbr'.out⟩
      · have hRt := hyes.out (by rw [show n = k by omega]; exact heq)
        subst hRt
        clear heq
        go_wp2
        go_ret
        exact ⟨rfl, by assumption⟩
  · have hRf : R = false := by
      rw [← hR]
      exact decide_eq_false fun e => gn (by rw [e])
    subst hRf
    have g1 : ¬ (ps.length : Int) = (qs.length : Int) := by omega
    clear hR hP hQ hA hB
    go_enter Tryd.func13, Tryd.ntmps13
    go_wp2
    go_ret
    exact ⟨rfl, Below.refl _ _⟩
end Go.Proofs.YtiaollhiggeolaaDoor.Ht
