/-
  slices.IndexFunc and ContainsFunc AT ROWS OF SESSIONS WHOSE RESULT IS OF TYPE int, for a function value with a state ('S k': behind k elements).
-/
import Derived.Test.YtnmcgmfpalgpnaaSesFnP
import Derived.Shelf.Abstract
import Derived.Lib.SliceRun
import Derived.Laws.IdiomCopy
import Derived.Test.YtnmcgmfpalgpnaaSesFnS
set_option linter.unusedVariables false
namespace Go.Proofs.Ytnmcgmfpalgpnaa.Se
open Go.Lib Go.RowKit

set_option maxHeartbeats 4000000 in
set_option maxRecDepth 100000 in
theorem indexFuncI (S : Nat → World → Prop) (g : Nat) (lb : Array Value) (q : Nat → Bool) (t : Tb Int) (A : Option Addr) (b off n c : Nat) (w : World) (eg : ∀ args w, (callFunc g args).run Try.prog w = .ok (.enter g args) w)
    (hn : t.length = n) (hA : 0 < n → A = some ⟨b, off, none⟩) (hS : ∀ k W, S k W → ∀ (j : Nat) (r : Ro Int), t[j]? = some r → RoCells eI W b (off + j * 4) r)
    (hp : ∀ k W r, t[k]? = some r → S k W → Calls Try.prog g (#[.agg #[.int .i64 r.id, .int .i64 r.last, .int .i64 r.used, .int .i64 r.x]] ++ lb) W fun e w' => e = .returned (.bool (q k)) ∧ S (k + 1) w') (hl : n ≤ 1099511627776) (h0 : S 0 w) :
    Calls Try.prog 42 #[.slice A n c, .func (.func g) #[] lb] w fun e w' =>
      (e = .returned (.int .i64 (-1)) ∧ (∀ j, j < n → q j = false) ∧ S n w') ∨ ∃ i : Nat, i < n ∧ e = .returned (.int .i64 (i : Int)) ∧ q i = true ∧ (∀ j, j < i → q j = false) ∧ S (i + 1) w' := by
  have hn' := Lib.hid hn
  have hS' := Lib.hid hS
  have hp' := Lib.hid hp
  have h0' := Lib.hid h0
  have hA' := Lib.hid hA
  clear hn hS hp h0 hA
  go_enter Try.func42, Try.ntmps42
  go_wp2
  go_loopw [8] (fun s8 wr => ∃ k : Nat, s8 = .int .i64 (k : Int) ∧ k ≤ n ∧ (∀ j, j < k → q j = false) ∧ S k wr) (fun s8 wr => n - (RowKit.intOf s8).toNat)
  case atStart => exact ⟨0, rfl, Nat.zero_le _, fun y hy => absurd hy (by omega), h0'.out⟩
  case round =>
    obtain ⟨k, rfl, hk, hall, hSk⟩ := hrel
    have hall' := Lib.hid hall
    have hSk' := Lib.hid hSk
    clear hall
    by_cases hlt : k < n
    · obtain ⟨r, hr⟩ : ∃ r, t[k]? = some r := ⟨_, List.getElem?_eq_getElem (by rw [hn'.out]; exact hlt)⟩
      obtain rfl := hA'.out (by omega)
      obtain ⟨c0, c1, c2, c3⟩ := hS'.out k wr hSk k r hr
      have hcall := hp'.out k wr r hr hSk
      have hnx := Lib.hid (show q k = false → ∀ j, j < k + 1 → q j = false from fun h j hj => by
        by_cases e : j = k
        · rw [e]; exact h
        · exact hall'.out j (by omega))
      obtain ⟨rid, rl, ru, rx⟩ := r
      simp only at c0 c1 c2 c3 hcall
      clear hr hSk
      cases hq : q k
      · rw [hq] at hcall
        have hq' := Lib.hid hq
        clear hq
        go_wp2_with (go_at_fn g; refine hcall.mono ?_; rintro e w3 ⟨rfl, hS3⟩)
        go_roundw
        case rel => exact ⟨k + 1, by go_num, by omega, hnx.out hq'.out, hS3⟩
        case measure => simp [RowKit.intOf]; omega
      · rw [hq] at hcall
        have hq' := Lib.hid hq
        clear hq
        go_wp2_with (go_at_fn g; refine hcall.mono ?_; rintro e w3 ⟨rfl, hS3⟩)
        go_ret
        exact .inr ⟨k, hlt, rfl, hq'.out, hall'.out, hS3⟩
    · obtain rfl : k = n := by omega
      clear hSk
      go_wp2
      go_ret
      exact .inl ⟨rfl, hall'.out, hSk'.out⟩

set_option maxHeartbeats 4000000 in
set_option maxRecDepth 100000 in
theorem containsFuncI (S : Nat → World → Prop) (g : Nat) (lb : Array Value) (q : Nat → Bool) (t : Tb Int) (A : Option Addr) (b off n c : Nat) (w : World) (eg : ∀ args w, (callFunc g args).run Try.prog w = .ok (.enter g args) w)
    (hn : t.length = n) (hA : 0 < n → A = some ⟨b, off, none⟩) (hS : ∀ k W, S k W → ∀ (j : Nat) (r : Ro Int), t[j]? = some r → RoCells eI W b (off + j * 4) r)
    (hp : ∀ k W r, t[k]? = some r → S k W → Calls Try.prog g (#[.agg #[.int .i64 r.id, .int .i64 r.last, .int .i64 r.used, .int .i64 r.x]] ++ lb) W fun e w' => e = .returned (.bool (q k)) ∧ S (k + 1) w') (hl : n ≤ 1099511627776) (h0 : S 0 w) :
    Calls Try.prog 30 #[.slice A n c, .func (.func g) #[] lb] w fun e w' =>
      (e = .returned (.bool false) ∧ (∀ j, j < n → q j = false) ∧ S n w') ∨ ∃ i : Nat, i < n ∧ e = .returned (.bool true) ∧ q i = true ∧ (∀ j, j < i → q j = false) ∧ S (i + 1) w' := by
  have cI := indexFuncI S g lb q t A b off n c w eg hn hA hS hp hl h0
  clear eg hn hA hS hp h0
  go_enter Try.func30, Try.ntmps30
  go_wp2_with fail
  go_at_call 42
  refine cI.mono ?_
  rintro e w1 (⟨rfl, h1, h2⟩ | ⟨i, h0, rfl, h1, h2, h3⟩)
  · have h1' := Lib.hid h1
    have h2' := Lib.hid h2
    clear h1 h2 cI
    go_wp2
    go_ret
    exact .inl ⟨rfl, h1'.out, h2'.out⟩
  · have h1' := Lib.hid h1
    have h2' := Lib.hid h2
    have h3' := Lib.hid h3
    have hd : decide ((0 : Int) ≤ (i : Int)) = true := by simp
    clear h1 h2 h3 cI
    go_wp2
    go_ret
    exact .inr ⟨i, h0, rfl, h1'.out, h2'.out, h3'.out⟩

/-- a function that tells q of a row, and leaves what lies -/
def PureI (g : Nat) (lb : Array Value) (q : Ro Int → Bool) (w : World) : Prop := ∀ (W : World) (r : Ro Int), Below w.heap.size w W → Calls Try.prog g (#[.agg #[.int .i64 r.id, .int .i64 r.last, .int .i64 r.used, .int .i64 r.x]] ++ lb) W fun e w' => e = .returned (.bool (q r)) ∧ Below w.heap.size w w'
theorem containsPureI (g : Nat) (lb : Array Value) (q : Ro Int → Bool) (t : Tb Int) (v : Value) (w : World) (eg : ∀ args w, (callFunc g args).run Try.prog w = .ok (.enter g args) w) (hv : RsAt eI w v t) (hp : PureI g lb q w) (hl : t.length ≤ 1099511627776) :
    Calls Try.prog 30 #[v, .func (.func g) #[] lb] w fun e w' => e = .returned (.bool (t.any q)) ∧ Below w.heap.size w w' := by
  obtain ⟨A, b, off, c, rfl, h1, h2, h3, h4⟩ := hv
  refine (containsFuncI (fun k W => Below w.heap.size w W) g lb (qAt q t) t A b off t.length c w eg rfl (fun h => (h3 h).1) (fun k W hW j r hr => (h4 j r hr).kept eI (h3 (by have := (List.getElem?_eq_some_iff.1 hr).1; omega)).2 hW)
    (fun k W r hr hW => by rw [qAt_is hr]; exact hp W r hW) hl (Below.refl _ _)).mono ?_
  rintro e w' (⟨rfl, k1, k2⟩ | ⟨i, k0, rfl, k1, k2, k3⟩)
  · exact ⟨by rw [any_false (q := q) fun j hj r hr => by rw [← qAt_is (q := q) hr]; exact k1 j hj], k2⟩
  · exact ⟨by rw [any_true (q := q) (List.getElem?_eq_getElem k0) (by rw [← qAt_is (q := q) (List.getElem?_eq_getElem k0)]; exact k1)], k3⟩
theorem indexPureI (g : Nat) (lb : Array Value) (q : Ro Int → Bool) (t : Tb Int) (v : Value) (w : World) (eg : ∀ args w, (callFunc g args).run Try.prog w = .ok (.enter g args) w) (hv : RsAt eI w v t) (hp : PureI g lb q w) (hl : t.length ≤ 1099511627776) :
    Calls Try.prog 42 #[v, .func (.func g) #[] lb] w fun e w' => ((e = .returned (.int .i64 (-1)) ∧ ∀ y ∈ t, q y = false) ∨ ∃ (i : Nat) (r : Ro Int), e = .returned (.int .i64 (i : Int)) ∧ t[i]? = some r ∧ q r = true ∧ ∀ y ∈ t.take i, q y = false) ∧ Below w.heap.size w w' := by
  obtain ⟨A, b, off, c, rfl, h1, h2, h3, h4⟩ := hv
  refine (indexFuncI (fun k W => Below w.heap.size w W) g lb (qAt q t) t A b off t.length c w eg rfl (fun h => (h3 h).1) (fun k W hW j r hr => (h4 j r hr).kept eI (h3 (by have := (List.getElem?_eq_some_iff.1 hr).1; omega)).2 hW)
    (fun k W r hr hW => by rw [qAt_is hr]; exact hp W r hW) hl (Below.refl _ _)).mono ?_
  rintro e w' (⟨rfl, k1, k2⟩ | ⟨i, k0, rfl, k1, k2, k3⟩)
  · exact ⟨.inl ⟨rfl, fun y hy => qAt_take (i := t.length) k1 y (by rw [List.take_length]; exact hy)⟩, k2⟩
  · exact ⟨.inr ⟨i, _, rfl, List.getElem?_eq_getElem k0, by rw [← qAt_is (q := q) (List.getElem?_eq_getElem k0)]; exact k1, qAt_take k2⟩, k3⟩
end Go.Proofs.Ytnmcgmfpalgpnaa.Se
