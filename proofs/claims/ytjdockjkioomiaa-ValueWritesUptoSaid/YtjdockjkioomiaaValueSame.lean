/-
  THE WALK OF THE REFERENCE's Same AT ONE LIST; append of strings that lie wherever, at a guarded operation too.
-/
import Derived.Test.YtjdockjkioomiaaValueFirst
import Derived.Laws.OwnMore
set_option linter.unusedVariables false
namespace Go.Proofs.Ytjdockjkioomiaa.Va
open Go.Lib Go.RowKit Bu

theorem drewN_twice (w : World) (m n : Nat) : ∃ k, (w.drewN m).drewN n = w.drewN k := ⟨m + n, World.drewN_drewN w m n⟩

set_option maxHeartbeats 4000000 in
set_option maxRecDepth 100000 in
theorem refSame_any (v1 v2 : Value) (L : List Row) (w : World) (h1 : StrsAt w v1 L) (h2 : StrsAt w v2 L) :
    Calls Try.prog 16 #[v1, v2] w fun e w' => e = .returned (.bool true) ∧ ∃ m, w' = w.drewN m := by
  obtain ⟨A, b, off, c, rfl, a1, a2, a3, a4⟩ := h1
  obtain ⟨B, b', off', c', rfl, b1, b2, b3, b4⟩ := h2
  obtain ⟨n, hn⟩ : ∃ n, L.length = n := ⟨_, rfl⟩
  rw [hn] at a1 a3 b1 b3 ⊢
  have hn' := Lib.hid hn
  have a3' := Lib.hid a3
  have a4' := Lib.hid a4
  have b3' := Lib.hid b3
  have b4' := Lib.hid b4
  unfold maxLen at a2 b2
  clear hn a3 a4 b3 b4
  go_enter Try.func16, Try.ntmps16
  go_wp2
  go_loopw [13] (fun s13 wr => ∃ k m : Nat, s13 = .int .i64 (k : Int) ∧ k ≤ n ∧ wr = w.drewN m) (fun s13 wr => n - (RowKit.intOf s13).toNat)
  case atStart => exact ⟨0, 0, rfl, Nat.zero_le _, rfl⟩
  case round =>
    obtain ⟨k, m, rfl, hk, hwr⟩ := hrel
    have hwr' := Lib.hid hwr
    by_cases hlt : k < n
    · have hl : L[k]? = some (L[k]'(by have := hn'.out; omega)) := List.getElem?_eq_getElem _
      obtain ⟨l, hle⟩ : ∃ l, L[k]'(by have := hn'.out; omega) = l := ⟨_, rfl⟩
      rw [hle] at hl
      obtain ⟨rfl, _⟩ := a3'.out (by omega)
      obtain ⟨rfl, _⟩ := b3'.out (by omega)
      obtain ⟨u, hu, rfl⟩ := a4'.out k l hl
      obtain ⟨u2, hu2, rfl⟩ := b4'.out k l hl
      obtain ⟨x, ex, hx⟩ := sv_some l
      rw [ex] at hu hu2
      have hu3 : wr.cell? ⟨b, off + k, none⟩ = some (.string x) := by rw [hwr]; exact hu
      have hu4 : wr.cell? ⟨b', off' + k, none⟩ = some (.string x) := by rw [hwr]; exact hu2
      clear hle hl ex hx hu hu2 hwr
      go_wp2
      go_quiet (fail)
      go_wp2
      go_roundw
      case rel => exact ⟨k + 1, _, by go_num, by omega, by rw [hwr'.out]; exact World.drewN_drewN _ _ _⟩
      case measure => simp [RowKit.intOf]; omega
    · clear hwr
      go_wp2
      go_ret
      exact ⟨rfl, m, hwr'.out⟩

/-- an operation that is wanted -/
theorem wpList_wanted {P : Program} {ops : Array Oper} {Q : Exit → Act → World → Prop} {a : Act} {w : World} {rest : List Oper} {o : Oper} (hw : Region.wanted o (yielded ops a.tmps) = true)
    (h : ∀ K : Act → World → Prop, (∀ a w, wpList P ops Q rest a w → K a w) → o.wp P a w K Q) : wpList P ops Q (o :: rest) a w :=
  wpList_step fun K hK => by rw [if_pos hw]; exact h K hK
/-- append onto a row of strings of the call's own, of strings that lie wherever -/
theorem append_strs {w : World} {ops : Array Oper} {rest : List Oper} {o : Oper} {a : Act} {Q : Exit → Act → World → Prop} (hw : Region.wanted o (yielded ops a.tmps) = true) (s x : Operand)
    (ho : o.op = .call { callee := .builtin .append, args := #[s, x], argTypes := #[29, 29] }) (base : Nat) (v xv : Value) (ms ls : List Row) (hs : a.eval s = v) (hx : a.eval x = xv)
    (hown : Own base v ms w) (hS : StrsAt w xv ls) (hne : 0 < ls.length) (hls : ms.length + ls.length ≤ 8796093022208) (hbase : base ≤ w.heap.size)
    (h : ∀ v' w', Own base v' (ms ++ ls) w' → w.grownBy w' v.ownBlock → wpList Try.prog ops Q rest (a.put o.dst v') w') : wpList Try.prog ops Q (o :: rest) a w := by
  obtain ⟨i0, hi, hz0, hz1, hz2⟩ := info_parts infoStr
  obtain ⟨A, b, off, c, rfl, h1, h2, h3, h4⟩ := hS
  obtain ⟨rfl, _⟩ := h3 hne
  refine wpList_wanted hw fun _ hK => wp_append_own w s x 29 ho base 9 i0 (.string ⟨#[]⟩) 1 16 Try.underlying29 hi hz0 hz1 hz2 rfl (by decide) v ms.length (ms.map sv) hs hown ⟨b, off, none⟩ ls.length c (ls.map sv) hx (by simp) (fun j u hj => ?_) (fun u hu => ?_) (by unfold maxLen; omega) (by omega) hbase (fun v' w' h5 h6 _ => hK _ _ (h v' w' ?_ h6))
  · rw [List.getElem?_map] at hj
    obtain ⟨l, hl, rfl⟩ := Option.map_eq_some_iff.1 hj
    obtain ⟨u, hu, rfl⟩ := h4 j l hl
    unfold Addr.add
    by_cases hj0 : j = 0
    · subst hj0; simpa using hu
    · rw [if_neg hj0]; exact hu
  · obtain ⟨l, _, rfl⟩ := List.mem_map.1 hu
    rfl
  · unfold Own
    rw [List.map_append, List.length_append]
    exact h5
end Go.Proofs.Ytjdockjkioomiaa.Va
