/-
  THE WALKS OF calepinref15.number AND text.
-/
import Derived.Test.YtpngbfmbjldieaaLayB
import Derived.Test.YtpngbfmbjldieaaCodPlain
import Derived.BigQuiet
import Derived.Deep.RegionHeld3
set_option linter.unusedVariables false
namespace Go.Proofs.Ytpngbfmbjldieaa.Cd
open Go.Lib Go.RowKit
open Bo (Kp Row ownsRow_heap)
open Ly (BOwn Wr word text flag num word_len num_word word_take append_byte append_text)

theorem wrap_toU (z : Int) : IntKind.u64.wrap z = (toU z : Int) := by
  unfold IntKind.wrap toU
  simp only [IntKind.bits, IntKind.signed, Bool.false_and, Bool.false_eq_true, if_false]
  omega
set_option maxHeartbeats 8000000 in
set_option maxRecDepth 100000 in
theorem refNumber_any (w : World) (B : Nat) (v : Value) (l : Row) (z : Int) (h : BOwn B v l w) (hl : l.length + 8 ≤ 140737488355328) (hB : B ≤ w.heap.size) :
    Calls Try.prog 37 #[v, .int .i64 z] w fun e w' => ∃ v', e = .returned v' ∧ Wr B w w' v v' (l ++ wrd z) := by
  obtain ⟨a0, c0, rfl⟩ := h.form
  have h0 := Lib.hid (Wr.refl h)
  have hU := wrap_toU z
  have hm := toU_lt z
  unfold wrd
  obtain ⟨n, hn⟩ : ∃ n, toU z = n := ⟨_, rfl⟩
  rw [hn] at hU hm ⊢
  clear hn
  go_enter Try.func37, Try.ntmps37
  go_wp2
  go_loopw [0, 5] (fun s0 s5 wr => ∃ k : Nat, s5 = .int .i64 (7 - (k : Int)) ∧ k ≤ 8 ∧ Hid (Wr B w wr (.slice a0 l.length c0) s0 (l ++ (word n).take k))) (fun _ s5 wr => (RowKit.intOf s5 + 1).toNat)
  case atStart => exact ⟨0, by rfl, by omega, Lib.hid (by rw [List.take_zero, List.append_nil]; exact h0.out)⟩
  case round =>
    obtain ⟨k, rfl, hk, hW⟩ := hrel
    obtain ⟨x, hx⟩ : ∃ x, l ++ (word n).take k = x := ⟨_, rfl⟩
    rw [hx] at hW
    have hx' := Lib.hid hx
    obtain ⟨a1, c1, rfl⟩ := hW.out.own.form
    by_cases hlt : k < 8
    · have hz : ((UInt8.ofNat (n / 2 ^ (56 - 8 * k))).toNat : Int) = (n : Int) / 2 ^ (56 - 8 * k) % 256 := by simp
      have hS : (8 : Int) * (7 - (k : Int)) = ((56 - 8 * k : Nat) : Int) := by omega
      have hlen : x.length + 1 ≤ 140737488355328 := by rw [← hx, List.length_append, List.length_take, word_len]; omega
      have hsz : B ≤ wr.heap.size := Nat.le_trans hB hW.out.kp.size
      clear hx
      go_wp2_with (first
        | (at_builtin; refine append_byte (UInt8.ofNat (n / 2 ^ (56 - 8 * k))) _ hz rfl _ _ rfl B _ _ _ rfl rfl rfl hW.out.own hlen hsz ?_; intro g cap w2 hw2; have hW2 := Lib.hid (hW.out.then hw2))
        | fail)
      clear hw2 hW hz
      go_wp2
      go_roundw
      case rel => exact ⟨k + 1, by go_num, by omega, Lib.hid (by rw [word_take n k hlt, ← List.append_assoc, hx'.out]; simpa using hW2.out)⟩
      case measure => simp [RowKit.intOf]; omega
    · obtain rfl : k = 8 := by omega
      have hxe : x = l ++ word n := by rw [← hx, List.take_of_length_le (by rw [word_len]; exact Nat.le_refl _)]
      have hW' : Hid (Wr B w wr (.slice a0 l.length c0) (.slice a1 x.length c1) (l ++ word n)) := Lib.hid (by rw [← hxe]; exact hW.out)
      clear hx hW hxe
      go_wp2
      go_ret
      exact ⟨_, rfl, hW'.out⟩

theorem wrd_nat {n : Nat} (h : n < 18446744073709551616) : wrd (n : Int) = word n := by
  unfold wrd toU
  rw [show ((n : Int) % 18446744073709551616).toNat = n by omega]
set_option maxHeartbeats 8000000 in
set_option maxRecDepth 100000 in
theorem refText_any (w : World) (B : Nat) (v : Value) (l : Row) (t : ByteArray) (h : BOwn B v l w) (hl : l.length + 8 + t.size ≤ 140737488355328) (hB : B ≤ w.heap.size) :
    Calls Try.prog 38 #[v, .string t] w fun e w' => ∃ v', e = .returned v' ∧ Wr B w w' v v' (l ++ text t.data.toList) := by
  obtain ⟨a0, c0, rfl⟩ := h.form
  have cN := refNumber_any w B _ l (t.size : Int) h (by omega) hB
  rw [wrd_nat (by omega)] at cN
  have hts : text t.data.toList = word t.size ++ t.data.toList := by unfold text; rw [← Lib.size_eq]
  go_enter Try.func38, Try.ntmps38
  go_wp2_with fail
  go_at_call 37
  refine cN.mono ?_
  rintro e w1 ⟨v1, rfl, h1⟩
  obtain ⟨x, hx⟩ : ∃ x, l ++ word t.size = x := ⟨_, rfl⟩
  have hxl : x.length + t.size ≤ 140737488355328 := by rw [← hx, List.length_append, word_len]; omega
  have hxt : l ++ text t.data.toList = x ++ t.data.toList := by rw [hts, ← List.append_assoc, hx]
  rw [hx] at h1
  have hxt' := Lib.hid hxt
  obtain ⟨a1, c1, rfl⟩ := h1.own.form
  have hsz : B ≤ w1.heap.size := Nat.le_trans hB h1.kp.size
  have h1' := Lib.hid h1
  clear cN hts hx hxt h1 hl
  go_wp2_with (first
    | (at_builtin; refine append_text t rfl _ _ rfl B _ x rfl rfl h1'.out.own hxl hsz ?_; intro v2 w2 hw2; have hW2 := Lib.hid (h1'.out.then hw2))
    | fail)
  clear hw2
  go_wp2
  go_ret
  exact ⟨_, rfl, by rw [hxt'.out]; exact hW2.out⟩
theorem refTextR_any (w : World) (B : Nat) (v : Value) (l t : Row) (h : BOwn B v l w) (hl : l.length + 8 + t.length ≤ 140737488355328) (hB : B ≤ w.heap.size) :
    Calls Try.prog 38 #[v, Bo.sv t] w fun e w' => ∃ v', e = .returned v' ∧ Wr B w w' v v' (l ++ text t) := by
  have hs : (⟨t.toArray⟩ : ByteArray).size = t.length := by show t.toArray.size = _; exact List.size_toArray
  exact refText_any w B v l ⟨t.toArray⟩ h (by rw [hs]; exact hl) hB
end Go.Proofs.Ytpngbfmbjldieaa.Cd
